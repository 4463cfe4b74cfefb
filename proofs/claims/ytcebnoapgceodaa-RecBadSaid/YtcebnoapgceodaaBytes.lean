/-
  Numbers as bytes, the highest one first, and back: plain facts on lists of bytes; nothing of the program.
-/
import Derived.Lib.BitFns
import Derived.Lib.UnsafeStr
namespace Go.Proofs.Ytcebnoapgceodaa

/-- the lowest 'j' bytes of n, the highest one first -/
def be : Nat → Nat → List UInt8
  | 0, _ => []
  | j + 1, n => UInt8.ofNat (n / 256 ^ j) :: be j n

theorem be_length : ∀ (j n : Nat), (be j n).length = j
  | 0, _ => rfl
  | j + 1, n => by simp [be, be_length j n]

theorem be_at : ∀ (j n k : Nat) (h : k < (be j n).length), (be j n)[k] = UInt8.ofNat (n / 256 ^ (j - 1 - k))
  | 0, n, k, h => by simp [be] at h
  | j + 1, n, 0, h => by simp [be]
  | j + 1, n, k + 1, h => by
    have hk : k < (be j n).length := by simpa [be] using h
    have e : j + 1 - 1 - (k + 1) = j - 1 - k := by omega
    rw [e, ← be_at j n k hk]
    simp [be]

theorem be_take (j n k : Nat) (h : k < j) : (be j n).take (k + 1) = (be j n).take k ++ [UInt8.ofNat (n / 256 ^ (j - 1 - k))] := by
  have hl : k < (be j n).length := by rw [be_length]; exact h
  rw [List.take_succ_eq_append_getElem hl, be_at]

/-- how many bytes a number has -/
def osz (n : Nat) : Nat := (Lib.bitLen n + 7) / 8

theorem bitLen_lt (n : Nat) (h : n < 2 ^ 64) : n < 2 ^ Lib.bitLen n := by
  have key : ∀ (f x : Nat), x < 2 ^ f → x < 2 ^ Lib.bitLenAux f x := by
    intro f
    induction f with
    | zero => intro x hx; simpa [Lib.bitLenAux] using hx
    | succ f ih =>
      intro x hx
      simp only [Lib.bitLenAux]
      split
      · rename_i h0; subst h0; simp
      · have := ih (x / 2) (by rw [Nat.pow_succ] at hx; omega)
        rw [Nat.add_comm, Nat.pow_succ]
        omega
  exact key 64 n h

theorem pow256 (j : Nat) : 256 ^ j = 2 ^ (8 * j) := by rw [Nat.pow_mul]

/-- a number has so many bytes at most, just if it is below so many times 256 -/
theorem osz_le (n j : Nat) (h : n < 2 ^ 64) (hj : j ≤ 8) : osz n ≤ j ↔ n < 256 ^ j := by
  rw [pow256]
  constructor
  · intro hh
    have h1 := bitLen_lt n h
    have h2 : 2 ^ Lib.bitLen n ≤ 2 ^ (8 * j) := Nat.pow_le_pow_right (by omega) (by unfold osz at hh; omega)
    omega
  · intro hh
    have := Lib.bitLen_le n (8 * j) (by omega) hh
    unfold osz
    omega

theorem osz_le8 (n : Nat) (h : n < 2 ^ 64) : osz n ≤ 8 := by
  have := Lib.bitLen_le n 64 (by omega) h
  unfold osz
  omega

theorem lt_osz (n : Nat) (h : n < 2 ^ 64) : n < 256 ^ osz n := (osz_le n (osz n) h (osz_le8 n h)).1 (Nat.le_refl _)

theorem osz_ge (n : Nat) (h : n < 2 ^ 64) (h0 : 0 < osz n) : 256 ^ (osz n - 1) ≤ n := by
  have h8 := osz_le8 n h
  have := osz_le n (osz n - 1) h (by omega)
  omega

theorem osz_zero (n : Nat) (h : n < 2 ^ 64) : osz n = 0 ↔ n = 0 := by
  have := osz_le n 0 h (by omega)
  simp at this
  omega

/-- what number bytes are -/
def val : List UInt8 → Nat
  | [] => 0
  | b :: l => b.toNat * 256 ^ l.length + val l

theorem val_lt : ∀ l : List UInt8, val l < 256 ^ l.length
  | [] => by simp [val]
  | b :: l => by
    have h := val_lt l
    have hb := b.toNat_lt
    simp only [val, List.length_cons, Nat.pow_succ]
    have h1 : b.toNat * 256 ^ l.length ≤ 255 * 256 ^ l.length := Nat.mul_le_mul_right _ (by omega)
    omega

theorem val_snoc : ∀ (l : List UInt8) (b : UInt8), val (l ++ [b]) = val l * 256 + b.toNat
  | [], b => by simp [val]
  | a :: l, b => by
    simp only [List.cons_append, val, val_snoc l b, List.length_append, List.length_cons, List.length_nil, Nat.pow_succ, Nat.zero_add]
    rw [Nat.add_mul, ← Nat.mul_assoc, Nat.add_assoc]

theorem be_succ_mod (j n : Nat) : n % 256 ^ (j + 1) = n / 256 ^ j % 256 * 256 ^ j + n % 256 ^ j := by
  rw [Nat.pow_succ, Nat.mod_mul, Nat.mul_comm (256 ^ j)]
  omega

theorem val_be : ∀ (j n : Nat), val (be j n) = n % 256 ^ j
  | 0, n => by simp [be, val, Nat.mod_one]
  | j + 1, n => by
    rw [be, val, val_be j n, be_length, be_succ_mod]
    simp

theorem be_val : ∀ l : List UInt8, ∀ c : Nat, be l.length (c * 256 ^ l.length + val l) = l
  | [], c => rfl
  | b :: l, c => by
    have hp : 0 < 256 ^ l.length := Nat.pow_pos (by omega)
    have hl := val_lt l
    have e1 : c * 256 ^ (l.length + 1) + (b.toNat * 256 ^ l.length + val l) = (c * 256 + b.toNat) * 256 ^ l.length + val l := by
      rw [Nat.pow_succ, Nat.add_mul, Nat.mul_assoc, Nat.mul_comm 256, Nat.add_assoc]
    simp only [List.length_cons, val, be]
    rw [e1, be_val l (c * 256 + b.toNat), Nat.mul_comm _ (256 ^ l.length), Nat.mul_add_div hp, Nat.div_eq_of_lt hl, Nat.add_zero]
    congr 1
    apply UInt8.toNat_inj.1
    have hb := b.toNat_lt
    simp

theorem be_val0 (l : List UInt8) : be l.length (val l) = l := by simpa using be_val l 0

/-- a number's bytes: how many there are, and these -/
def octN (n : Nat) : List UInt8 := UInt8.ofNat (osz n) :: be (osz n) n

theorem octN_length (n : Nat) : (octN n).length = 1 + osz n := by simp [octN, be_length]; omega

theorem val_be_osz (n : Nat) (h : n < 2 ^ 64) : val (be (osz n) n) = n := by
  rw [val_be, Nat.mod_eq_of_lt (lt_osz n h)]

/-- bytes that don't begin with nought are in the one form of their number -/
theorem osz_val (l : List UInt8) (h8 : l.length ≤ 8) (h0 : ∀ h : 0 < l.length, l[0] ≠ 0) : osz (val l) = l.length := by
  have hlt := val_lt l
  have h64 : val l < 2 ^ 64 := by
    have : 256 ^ l.length ≤ 256 ^ 8 := Nat.pow_le_pow_right (by omega) h8
    omega
  have h1 := (osz_le (val l) l.length h64 h8).2 hlt
  rcases Nat.lt_or_ge (osz (val l)) l.length with hh | hh
  · exfalso
    match l, h0 with
    | [], _ => simp at hh
    | b :: l, h0 =>
      have hb : b ≠ 0 := by simpa using h0
      have hb' : 1 ≤ b.toNat := by
        have : b.toNat ≠ 0 := fun e => hb (UInt8.toNat_inj.1 (by simpa using e))
        omega
      have h2 := (osz_le (val (b :: l)) l.length h64 (by simp at h8; omega)).1 (by simp at hh; omega)
      have h3 : 1 * 256 ^ l.length ≤ b.toNat * 256 ^ l.length := Nat.mul_le_mul_right _ hb'
      simp only [val] at h2
      omega
  · omega

theorem be_head (n : Nat) (h : n < 2 ^ 64) (h0 : 0 < (be (osz n) n).length) : (be (osz n) n)[0] ≠ 0 := by
  have hz : 0 < osz n := by simpa [be_length] using h0
  have h1 := osz_ge n h hz
  have h2 := lt_osz n h
  rw [be_at]
  intro e
  have e' := congrArg UInt8.toNat e
  have hp : 0 < 256 ^ (osz n - 1) := Nat.pow_pos (by omega)
  have h3 : n / 256 ^ (osz n - 1) < 256 := by
    rw [Nat.div_lt_iff_lt_mul hp]
    have : 256 ^ osz n = 256 * 256 ^ (osz n - 1) := by
      rw [Nat.mul_comm, ← Nat.pow_succ]; congr 1; omega
    omega
  have h4 : 1 ≤ n / 256 ^ (osz n - 1) := by
    rw [Nat.le_div_iff_mul_le hp]; omega
  simp at e'
  omega

theorem octN_lt (n : Nat) (h : n < 2 ^ 64) : (octN n).length ≤ 9 := by
  have := osz_le8 n h
  rw [octN_length]; omega

end Go.Proofs.Ytcebnoapgceodaa
