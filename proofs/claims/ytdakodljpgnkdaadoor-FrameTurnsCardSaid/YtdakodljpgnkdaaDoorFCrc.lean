/-
  CRC-32 of Castagnoli, plainly: a rest, turned bit by bit and four bits at a time; what two texts' sums have to do with one another. Plain facts on numbers; nothing of the program.
-/
import Derived.Laws.BitsAllLaws
namespace Go.Proofs.YtdakodljpgnkdaaDoor

/-- what four bits leave -/
def tabL : List Nat := [0x00000000, 0x105ec76f, 0x20bd8ede, 0x30e349b1, 0x417b1dbc, 0x5125dad3, 0x61c69362, 0x7198540d, 0x82f63b78, 0x92a8fc17, 0xa24bb5a6, 0xb21572c9, 0xc38d26c4, 0xd3d3e1ab, 0xe330a81a, 0xf36e6f75]
def tabN (k : Nat) : Nat := tabL.getD k 0

theorem tabN_lt (k : Nat) (h : k < 16) : tabN k < 4294967296 := by
  have : ∀ k : Fin 16, tabN k.val < 4294967296 := by decide +kernel
  exact this ⟨k, h⟩

/-- one bit -/
def bitW (x : Nat) : Nat := (x / 2) ^^^ (x % 2 * 0x82f63b78)

theorem xor_half (a b : Nat) : (a ^^^ b) / 2 = a / 2 ^^^ b / 2 := by simpa using Nat.xor_div_two_pow (a := a) (b := b) (n := 1)
theorem xor_odd (a b : Nat) : (a ^^^ b) % 2 = a % 2 ^^^ b % 2 := by simpa using Nat.xor_mod_two_pow (a := a) (b := b) (n := 1)

theorem xor_zero_eq {a b : Nat} (h : a ^^^ b = 0) : a = b := by
  have e : (a ^^^ b) ^^^ b = a := by rw [Nat.xor_assoc, Nat.xor_self, Nat.xor_zero]
  rw [h, Nat.zero_xor] at e
  exact e.symm

theorem xor_swap (a b c d : Nat) : (a ^^^ b) ^^^ (c ^^^ d) = (a ^^^ c) ^^^ (b ^^^ d) := by
  rw [Nat.xor_assoc, Nat.xor_assoc, ← Nat.xor_assoc b c d, Nat.xor_comm b c, Nat.xor_assoc c b d]

theorem bitW_xor (a b : Nat) : bitW (a ^^^ b) = bitW a ^^^ bitW b := by
  unfold bitW
  rw [xor_half, xor_odd]
  have e : (a % 2 ^^^ b % 2) * 0x82f63b78 = a % 2 * 0x82f63b78 ^^^ b % 2 * 0x82f63b78 := by
    rcases Nat.mod_two_eq_zero_or_one a with h | h <;> rcases Nat.mod_two_eq_zero_or_one b with k | k <;> rw [h, k] <;> decide +kernel
  rw [e, xor_swap]

theorem bitW_two (y : Nat) : bitW (y * 2) = y := by
  unfold bitW
  have h1 : y * 2 / 2 = y := by omega
  have h2 : y * 2 % 2 = 0 := by omega
  rw [h1, h2]; simp

def wn : Nat → Nat → Nat
  | 0, x => x
  | n + 1, x => wn n (bitW x)

theorem wn_xor : ∀ (n a b : Nat), wn n (a ^^^ b) = wn n a ^^^ wn n b
  | 0, _, _ => rfl
  | n + 1, a, b => by simp only [wn]; rw [bitW_xor, wn_xor n]

theorem wn_add : ∀ (m n x : Nat), wn (m + n) x = wn n (wn m x)
  | 0, n, x => by simp [wn]
  | m + 1, n, x => by rw [Nat.add_right_comm]; simp only [wn]; exact wn_add m n _

theorem wn_pow : ∀ (n m : Nat), wn n (m * 2 ^ n) = m
  | 0, m => by simp [wn]
  | n + 1, m => by
    simp only [wn]
    rw [Nat.pow_succ, ← Nat.mul_assoc, bitW_two]
    exact wn_pow n m

theorem bitW_ne {x : Nat} (h : x ≠ 0) (hx : x < 4294967296) : bitW x ≠ 0 ∧ bitW x < 4294967296 := by
  unfold bitW
  refine ⟨fun e => ?_, Nat.xor_lt_two_pow (n := 32) (by omega) (by omega)⟩
  replace e := xor_zero_eq e
  rcases Nat.mod_two_eq_zero_or_one x with k | k
  · rw [k] at e; omega
  · rw [k] at e; omega

theorem wn_ne : ∀ (n : Nat) {x : Nat}, x ≠ 0 → x < 4294967296 → wn n x ≠ 0
  | 0, _, h, _ => h
  | n + 1, _, h, hx => wn_ne n (bitW_ne h hx).1 (bitW_ne h hx).2

/-- a number is what stands above its lowest bits, and these -/
theorem split_low (i x : Nat) : x = (x / 2 ^ i * 2 ^ i) ^^^ (x % 2 ^ i) := by
  apply Nat.eq_of_testBit_eq
  intro j
  rw [Nat.testBit_xor, Nat.testBit_mod_two_pow, Nat.testBit_mul_two_pow, Nat.testBit_div_two_pow]
  by_cases h : j < i
  · simp [h, Nat.not_le.2 h]
  · have h' : i ≤ j := by omega
    simp [h, h', Nat.sub_add_cancel h']

theorem join_low (i y k : Nat) (h : k < 2 ^ i) : y * 2 ^ i + k = (y * 2 ^ i) ^^^ k := by
  have hp : 0 < 2 ^ i := Nat.two_pow_pos i
  have e := split_low i (y * 2 ^ i + k)
  have h1 : (y * 2 ^ i + k) / 2 ^ i = y := by
    rw [Nat.add_comm, Nat.add_mul_div_right _ _ hp, Nat.div_eq_of_lt h, Nat.zero_add]
  have h2 : (y * 2 ^ i + k) % 2 ^ i = k := by
    rw [Nat.add_comm, Nat.add_mul_mod_self_right, Nat.mod_eq_of_lt h]
  rwa [h1, h2] at e

/-- four bits -/
def nib (s : Nat) : Nat := (s / 16) ^^^ tabN (s % 16)

theorem nib_wn (s : Nat) : nib s = wn 4 s := by
  have e := split_low 4 s
  have h : ∀ k : Fin 16, tabN k.val = wn 4 k.val := by decide +kernel
  unfold nib
  rw [show (16 : Nat) = 2 ^ 4 from rfl]
  conv => rhs; rw [e, wn_xor, wn_pow]
  rw [h ⟨s % 2 ^ 4, Nat.mod_lt _ (by decide)⟩]

theorem nib_lt (s : Nat) (h : s < 4294967296) : nib s < 4294967296 := by
  have := tabN_lt (s % 16) (Nat.mod_lt _ (by decide))
  exact Nat.xor_lt_two_pow (n := 32) (by omega) this

/-- one byte -/
def stepB (s b : Nat) : Nat := nib (nib (s ^^^ b))

theorem stepB_lt (s b : Nat) (h : s < 4294967296) (hb : b < 256) : stepB s b < 4294967296 := nib_lt _ (nib_lt _ (Nat.xor_lt_two_pow (n := 32) (by omega) (by omega)))

theorem stepB_wn (s b : Nat) : stepB s b = wn 8 (s ^^^ b) := by
  unfold stepB
  rw [nib_wn, nib_wn, ← wn_add]

def run : Nat → List UInt8 → Nat
  | s, [] => s
  | s, b :: l => run (stepB s b.toNat) l

theorem run_lt : ∀ (l : List UInt8) (s : Nat), s < 4294967296 → run s l < 4294967296
  | [], _, h => h
  | b :: l, s, h => run_lt l _ (stepB_lt s _ h b.toNat_lt)

theorem run_append : ∀ (l m : List UInt8) (s : Nat), run s (l ++ m) = run (run s l) m
  | [], _, _ => rfl
  | b :: l, m, s => by simp only [List.cons_append, run]; exact run_append l m _

theorem run_snoc (l : List UInt8) (b : UInt8) (s : Nat) : run s (l ++ [b]) = stepB (run s l) b.toNat := by rw [run_append]; rfl

/-- bytes as one number, the lowest one first -/
def leN : List UInt8 → Nat
  | [] => 0
  | b :: l => leN l * 256 + b.toNat

theorem leN_cons (b : UInt8) (l : List UInt8) : leN (b :: l) = (leN l * 256) ^^^ b.toNat := join_low 8 (leN l) b.toNat b.toNat_lt

theorem run_wn : ∀ (l : List UInt8) (s : Nat), run s l = wn (8 * l.length) (s ^^^ leN l)
  | [], s => by simp [run, wn, leN]
  | b :: l, s => by
    simp only [run, List.length_cons]
    rw [run_wn l, stepB_wn, show 8 * (l.length + 1) = 8 + 8 * l.length by omega, wn_add, leN_cons, Nat.xor_comm (leN l * 256), ← Nat.xor_assoc, wn_xor 8 (s ^^^ b.toNat), show (256 : Nat) = 2 ^ 8 from rfl, wn_pow]

def crc (l : List UInt8) : Nat := run 4294967295 l ^^^ 4294967295

theorem crc_lt (l : List UInt8) : crc l < 4294967296 := Nat.xor_lt_two_pow (n := 32) (run_lt l _ (by omega)) (by omega)

theorem xor_can {a b c : Nat} (h : a ^^^ c = b ^^^ c) : a ^^^ b = 0 := by
  have e := congrArg (· ^^^ c) h
  simp only [Nat.xor_assoc, Nat.xor_self, Nat.xor_zero] at e
  rw [e, Nat.xor_self]

/-- Where two texts part in bits within 32 side by side, and in no others, their sums part. -/
theorem crc_ne {a b : List UInt8} (hl : a.length = b.length) (m k : Nat) (hd : leN a ^^^ leN b = m * 2 ^ k) (hk : k ≤ 8 * a.length) (h0 : m ≠ 0) (hm : m < 4294967296) : crc a ≠ crc b := by
  intro e
  have e1 := xor_can e
  rw [run_wn, run_wn, ← hl, ← wn_xor, xor_swap, Nat.xor_self, Nat.zero_xor, hd, show 8 * a.length = k + (8 * a.length - k) by omega, wn_add, wn_pow] at e1
  exact wn_ne _ h0 hm e1

theorem xor_bytes (p q : Nat) (x y : UInt8) : (p ^^^ q) * 256 + (x ^^^ y).toNat = (p * 256 + x.toNat) ^^^ (q * 256 + y.toNat) := by
  rw [join_low 8 p _ x.toNat_lt, join_low 8 q _ y.toNat_lt, show (256 : Nat) = 2 ^ 8 from rfl, join_low 8 (p ^^^ q) _ (x ^^^ y).toNat_lt, UInt8.toNat_xor]
  have e : (p ^^^ q) * 2 ^ 8 = p * 2 ^ 8 ^^^ q * 2 ^ 8 := by
    rw [← Nat.shiftLeft_eq, ← Nat.shiftLeft_eq, ← Nat.shiftLeft_eq, Nat.shiftLeft_xor_distrib]
  rw [e, xor_swap]

theorem leN_zip : ∀ (a b : List UInt8), a.length = b.length → leN (List.zipWith (· ^^^ ·) a b) = leN a ^^^ leN b
  | [], [], _ => rfl
  | x :: a, y :: b, h => by
    simp only [List.zipWith_cons_cons, leN]
    rw [leN_zip a b (by simpa using h), xor_bytes]

theorem leN_zeros : ∀ n : Nat, leN (List.replicate n 0) = 0
  | 0 => rfl
  | n + 1 => by simp [List.replicate_succ, leN, leN_zeros n]

/-- The sum of texts laid over each other. -/
theorem crc_over (a b : List UInt8) (hl : a.length = b.length) : crc (List.zipWith (· ^^^ ·) a b) = crc a ^^^ crc b ^^^ crc (List.replicate a.length 0) := by
  unfold crc
  rw [run_wn, run_wn, run_wn, run_wn, leN_zip a b hl, leN_zeros]
  simp only [List.length_zipWith, List.length_replicate, ← hl, Nat.min_self, Nat.xor_zero, wn_xor]
  generalize wn (8 * a.length) (leN a) = p
  generalize wn (8 * a.length) (leN b) = q
  generalize wn (8 * a.length) 4294967295 = z
  apply Nat.eq_of_testBit_eq
  intro j
  simp only [Nat.testBit_xor]
  cases Nat.testBit p j <;> cases Nat.testBit q j <;> cases Nat.testBit z j <;> cases Nat.testBit 4294967295 j <;> rfl

theorem crc_digits : crc [49, 50, 51, 52, 53, 54, 55, 56, 57] = 0xe3069283 := by decide +kernel

/-- a number in four bytes, the lowest one first -/
def le4 (n : Nat) : List UInt8 := [UInt8.ofNat n, UInt8.ofNat (n / 256), UInt8.ofNat (n / 65536), UInt8.ofNat (n / 16777216)]
theorem le4_length (n : Nat) : (le4 n).length = 4 := rfl
theorem leN_le4 (n : Nat) (h : n < 4294967296) : leN (le4 n) = n := by
  simp only [leN, le4, UInt8.toNat_ofNat']
  omega
theorem le4_leN (a b c d : UInt8) : le4 (leN [a, b, c, d]) = [a, b, c, d] := by
  have ha := a.toNat_lt
  have hb := b.toNat_lt
  have hc := c.toNat_lt
  have hd := d.toNat_lt
  simp only [leN, le4, List.cons.injEq, and_true]
  refine ⟨?_, ?_, ?_, ?_⟩ <;> apply UInt8.toNat_inj.1 <;> simp only [UInt8.toNat_ofNat'] <;> omega
theorem leN_lt : ∀ (l : List UInt8), leN l < 256 ^ l.length
  | [] => by simp [leN]
  | b :: l => by
    have := leN_lt l
    have hb := b.toNat_lt
    simp only [leN, List.length_cons, Nat.pow_succ]
    omega
theorem leN_inj : ∀ {a b : List UInt8}, a.length = b.length → leN a = leN b → a = b
  | [], [], _, _ => rfl
  | x :: a, y :: b, hl, h => by
    have hx := x.toNat_lt
    have hy := y.toNat_lt
    simp only [leN] at h
    have h1 : x.toNat = y.toNat := by omega
    have h2 : leN a = leN b := by omega
    rw [UInt8.toNat_inj.1 h1, leN_inj (by simpa using hl) h2]

/-- a frame -/
def frm (t : List UInt8) : List UInt8 := le4 t.length ++ le4 (crc (le4 t.length)) ++ le4 (crc t) ++ t
theorem frm_length (t : List UInt8) : (frm t).length = t.length + 12 := by simp [frm, le4]

end Go.Proofs.YtdakodljpgnkdaaDoor
