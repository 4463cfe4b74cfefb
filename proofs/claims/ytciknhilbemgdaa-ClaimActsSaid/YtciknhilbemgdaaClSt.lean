/-
  Claims between two rounds of a law; Busy there; keys in a row that came in.
-/
import Derived.Test.YtciknhilbemgdaaClH
namespace Go.Proofs.Ytciknhilbemgdaa.cl
open Go.Proofs.Ytciknhilbemgdaa.tRow Go.RowKit

/-- the state between two rounds -/
def St (w W : World) (c : Nat) (m : Nat) (gs : G) : Prop := CAt (fun q => w.heap.size ≤ q) W c m gs ∧ Below w.heap.size w W
theorem St.below {w W W2 : World} {c m : Nat} {gs : G} (h : St w W c m gs) (hb : Below W.heap.size W W2) : St w W2 c m gs := ⟨h.1.below hb (Nat.le_refl _), h.2.trans (hb.mono h.2.size)⟩
theorem busy_st {w W : World} {c m : Nat} {gs : G} (n : Int) (h : St w W c m gs) : Calls Try.prog 8 #[.pointer (some ⟨c, 0, none⟩), .int .i64 n] W fun e w' => ∃ p q, e = .returned (.func (.func 13) #[] #[.pointer (some ⟨p, 0, none⟩), .pointer (some ⟨q, 0, none⟩)]) ∧ Below W.heap.size W w' ∧
    ∀ W2, Below w'.heap.size w' W2 → ∀ k : ByteArray, k.size ≤ maxLen → Calls Try.prog 13 #[.string k, .pointer (some ⟨p, 0, none⟩), .pointer (some ⟨q, 0, none⟩)] W2 fun e w3 => e = .returned (.bool (otherG gs n k.data.toList)) ∧ w3 = W2 ∧ St w W2 c m gs := by
  obtain ⟨q1, q2⟩ := h
  refine (busy_any _ _ _).mono ?_
  rintro e w' ⟨rfl, rfl⟩
  refine ⟨_, _, rfl, ((Below.refl _ W).alloc (Nat.le_refl _) _).alloc (by simp) _, fun W2 hb2 k hk => ?_⟩
  have q5 := (q1.alloc (.cells #[.pointer (some ⟨c, 0, none⟩)] 24)).alloc (.cells #[.int .i64 n] 3)
  have q6 := q5.below hb2 (Nat.le_refl _)
  have q7 := (q2.alloc q2.size (.cells #[.pointer (some ⟨c, 0, none⟩)] 24)).alloc (q2.alloc q2.size _).size (.cells #[.int .i64 n] 3)
  refine (asked_any q6 n W.heap.size (W.heap.size + 1) ?_ ?_ k hk).mono ?_
  · rw [hb2.cell (by simp; omega)]; simp
  · rw [hb2.cell (by simp)]; simp
  · rintro e w3 ⟨rfl, rfl⟩
    exact ⟨rfl, rfl, q6, q7.trans (hb2.mono q7.size)⟩
theorem take_st {w W : World} {c m : Nat} {gs : G} (n : Int) (h : St w W c m gs) (hm : m < 1000000) (k : ByteArray) (hk : k.size ≤ maxLen) : Calls Try.prog 10 #[.pointer (some ⟨c, 0, none⟩), .int .i64 n, .string k] W fun e w' => e = .returned (.bool (!otherG gs n k.data.toList)) ∧ St w w' c (m + 1) (takeG gs n k.data.toList) := by
  refine (take_any h.1 (fun q hq => Nat.le_trans h.2.size hq) hm n k hk).mono ?_
  rintro e w' ⟨rfl, h1, h2⟩
  exact ⟨rfl, h1, h.2.trans (h2.below (fun _ h => h) h.2.size)⟩
theorem free_st {w W : World} {c m : Nat} {gs : G} (n : Int) (h : St w W c m gs) (hl : gs.length ≤ 100000) (hk : ∀ p ∈ gs, p.1.length ≤ 1000) : Calls Try.prog 9 #[.pointer (some ⟨c, 0, none⟩), .int .i64 n] W fun e w' => ∃ v, e = .returned v ∧ Ss W.heap.size w' v ((ofG gs n).map mk8) ∧ Below w.heap.size w w' ∧ St w w' c m (freeG gs n) := by
  refine (free_any h.1 hl hk n).mono ?_
  rintro e w' ⟨v, rfl, h1, h2, h3⟩
  have h4 := h.2.trans (h3.below (fun _ h => h) h.2.size)
  exact ⟨v, rfl, h1, h4, h2, h4⟩

theorem and_1 (n : Int) : bits .and .i64 n 1 = n % 2 := by
  have hc : (BitVec.ofInt 64 1).toNat = 2 ^ 1 - 1 := by decide
  have key : (BitVec.ofInt 64 n &&& BitVec.ofInt 64 1).toNat = (n % ((2 ^ 64 : Nat) : Int)).toNat % 2 ^ 1 := by
    rw [BitVec.toNat_and, BitVec.toNat_ofInt, hc, Nat.and_two_pow_sub_one_eq_mod]
  show IntKind.i64.wrap ((BitVec.ofInt 64 n &&& BitVec.ofInt 64 1).toNat : Nat) = n % 2
  rw [key, IntKind.wrap_i64]
  omega

end Go.Proofs.Ytciknhilbemgdaa.cl
