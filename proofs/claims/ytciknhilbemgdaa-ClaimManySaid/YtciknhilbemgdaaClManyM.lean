/-
  ClaimMany: its claims, plainly.
-/
import Derived.Test.YtciknhilbemgdaaClH
namespace Go.Proofs.Ytciknhilbemgdaa.claimMany
open Go.RowKit Go.Proofs.Ytciknhilbemgdaa.cl

theorem and_15 (n : Int) : bits .and .i64 n 15 = n % 16 := by
  have hc : (BitVec.ofInt 64 15).toNat = 2 ^ 4 - 1 := by decide
  have key : (BitVec.ofInt 64 n &&& BitVec.ofInt 64 15).toNat = (n % ((2 ^ 64 : Nat) : Int)).toNat % 2 ^ 4 := by
    rw [BitVec.toNat_and, BitVec.toNat_ofInt, hc, Nat.and_two_pow_sub_one_eq_mod]
  show IntKind.i64.wrap ((BitVec.ofInt 64 n &&& BitVec.ofInt 64 15).toNat : Nat) = n % 16
  rw [key, IntKind.wrap_i64]
  omega
theorem and_63 (n : Int) : bits .and .i64 n 63 = n % 64 := by
  have hc : (BitVec.ofInt 64 63).toNat = 2 ^ 6 - 1 := by decide
  have key : (BitVec.ofInt 64 n &&& BitVec.ofInt 64 63).toNat = (n % ((2 ^ 64 : Nat) : Int)).toNat % 2 ^ 6 := by
    rw [BitVec.toNat_and, BitVec.toNat_ofInt, hc, Nat.and_two_pow_sub_one_eq_mod]
  show IntKind.i64.wrap ((BitVec.ofInt 64 n &&& BitVec.ofInt 64 63).toNat : Nat) = n % 64
  rw [key, IntKind.wrap_i64]
  omega

/-- the key of a number -/
def k1 (j : Nat) : L8 := [UInt8.ofNat j]
theorem k1_lt {i j : Nat} (hi : i < 64) (hj : j < 64) : bytesBefore (k1 i) (k1 j) = true ↔ i < j := by
  rw [b_iff]
  unfold k1
  simp only [List.cons_lt_cons_iff, UInt8.lt_iff_toNat_lt, UInt8.toNat_ofNat', List.lt_irrefl, and_false, or_false]
  omega
theorem k1_inj {i j : Nat} (hi : i < 64) (hj : j < 64) (h : k1 i = k1 j) : i = j := by
  rcases Nat.lt_trichotomy i j with k | k | k
  · exact absurd ((k1_lt hi hj).2 k) (by rw [h, b_irr]; simp)
  · exact k
  · exact absurd ((k1_lt hj hi).2 k) (by rw [h, b_irr]; simp)

/-- the first i keys, each with its number's rest -/
def gsM (i n : Nat) : G := (List.range i).map fun j => (k1 j, ((j % n : Nat) : Int))

theorem ins_last {x : L8 × Int} : ∀ {gs : G}, (∀ p ∈ gs, bytesBefore p.1 x.1 = true) → insG x gs = gs ++ [x]
  | [], _ => rfl
  | y :: r, h => by
    rw [insG, if_neg, ins_last fun p hp => h p (List.mem_cons_of_mem _ hp)]
    · rfl
    · intro hb
      have := b_trans hb (h y List.mem_cons_self)
      rw [b_irr] at this
      cases this
theorem gsM_mem {i n : Nat} {p : L8 × Int} (h : p ∈ gsM i n) : ∃ j, j < i ∧ p = (k1 j, ((j % n : Nat) : Int)) := by
  obtain ⟨j, hj, rfl⟩ := List.mem_map.1 h
  exact ⟨j, List.mem_range.1 hj, rfl⟩
theorem gsM_put {i n : Nat} (hi : i < 64) : putG (k1 i) ((i % n : Nat) : Int) (gsM i n) = gsM (i + 1) n := by
  have hlt : ∀ p ∈ gsM i n, bytesBefore p.1 (k1 i) = true := fun p hp => by
    obtain ⟨j, hj, rfl⟩ := gsM_mem hp
    exact (k1_lt (by omega) hi).2 hj
  have hd : delG (k1 i) (gsM i n) = gsM i n := by
    unfold delG
    refine List.filter_eq_self.2 fun p hp => ?_
    have := hlt p hp
    have hne : p.1 ≠ k1 i := fun e => by rw [e, b_irr] at this; cases this
    simp [hne]
  unfold putG
  rw [hd, ins_last hlt]
  unfold gsM
  rw [List.range_succ, List.map_append]
  rfl
theorem gsM_get {i n j : Nat} (hi : i ≤ 64) (hj : j < 64) : getG (k1 j) (gsM i n) = if j < i then some ((j % n : Nat) : Int) else none := by
  induction i with
  | zero => rw [if_neg (by omega)]; rfl
  | succ i ih =>
    rw [← gsM_put (by omega), get_put]
    by_cases e : k1 j = k1 i
    · have := k1_inj hj (by omega) e
      subst this
      rw [if_pos rfl, if_pos (by omega)]
    · rw [if_neg e, ih (by omega)]
      have : j ≠ i := fun e2 => e (by rw [e2])
      by_cases h : j < i
      · rw [if_pos h, if_pos (by omega)]
      · rw [if_neg h, if_neg (by omega)]
theorem gsM_len (i n : Nat) : (gsM i n).length = i := by unfold gsM; simp
theorem gsM_rise {i n : Nat} (hi : i ≤ 64) : RiseG (gsM i n) := by
  unfold gsM RiseG
  rw [List.pairwise_map]
  refine List.Pairwise.imp_of_mem (R := (· < ·)) (fun {a b} ha hb h => ?_) List.pairwise_lt_range
  exact (k1_lt (by have := List.mem_range.1 ha; omega) (by have := List.mem_range.1 hb; omega)).2 h

/-- how many of the first m numbers have a rest -/
def cnt (n g m : Nat) : Nat := ((List.range m).filter fun j => j % n == g).length
theorem cnt_succ (n g m : Nat) : cnt n g (m + 1) = cnt n g m + if m % n = g then 1 else 0 := by
  unfold cnt
  rw [List.range_succ, List.filter_append, List.length_append]
  by_cases h : m % n = g <;> simp [h]
theorem cnt_le (n g m : Nat) : cnt n g m ≤ m := by
  unfold cnt
  exact Nat.le_trans (List.length_filter_le _ _) (by simp)
theorem of_len (n g k : Nat) : (ofG (gsM k n) (g : Int)).length = cnt n g k := by
  unfold ofG gsM cnt
  rw [List.length_map, List.filter_map, List.length_map]
  congr 1
  refine List.filter_congr fun j _ => ?_
  simp only [Function.comp]
  rw [Bool.eq_iff_iff]
  simp only [beq_iff_eq]
  omega
theorem free_len (n g k : Nat) : (freeG (gsM k n) (g : Int)).length + cnt n g k = k := by
  induction k with
  | zero => rfl
  | succ k ih =>
    have e : freeG (gsM (k + 1) n) (g : Int) = freeG (gsM k n) (g : Int) ++ (if k % n = g then [] else [(k1 k, ((k % n : Nat) : Int))]) := by
      unfold freeG gsM
      rw [List.range_succ, List.map_append, List.filter_append]
      congr 1
      by_cases h : k % n = g
      · rw [if_pos h]
        have : (((k % n : Nat) : Int) != (g : Int)) = false := by simp only [bne_eq_false_iff_eq]; omega
        simp only [List.map_cons, List.map_nil, List.filter_cons, this, List.filter_nil]
        rfl
      · rw [if_neg h]
        have : (((k % n : Nat) : Int) != (g : Int)) = true := by simp only [bne_iff_ne]; omega
        simp only [List.map_cons, List.map_nil, List.filter_cons, this, if_true, List.filter_nil]
    rw [e, cnt_succ, List.length_append]
    by_cases h : k % n = g
    · rw [if_pos h, if_pos h]; simp only [List.length_nil]; omega
    · rw [if_neg h, if_neg h]; simp only [List.length_cons, List.length_nil]; omega
theorem free_get (gs : G) (hr : RiseG gs) (who : Int) (k : L8) : getG k (freeG gs who) = if getG k gs = some who then none else getG k gs := by
  rw [← dels_of hr]
  cases h : getG k (dels (ofG gs who) gs) with
  | some z =>
    have h1 : (k, z) ∈ dels (ofG gs who) gs := (mem_get (rise_filter _ hr)).2 h
    obtain ⟨h2, h3⟩ := List.mem_filter.1 (show (k, z) ∈ gs.filter _ from h1)
    have h4 := (mem_get hr).1 h2
    have h5 : ¬ k ∈ ofG gs who := by simpa using h3
    rw [if_neg (fun e => h5 ((mem_of hr).2 e)), h4]
  | none =>
    by_cases hw : getG k gs = some who
    · rw [if_pos hw]
    · rw [if_neg hw]
      cases h4 : getG k gs with
      | none => rfl
      | some z =>
        have h5 : ¬ k ∈ ofG gs who := fun e => hw ((mem_of hr).1 e)
        have h1 : (k, z) ∈ dels (ofG gs who) gs := List.mem_filter.2 ⟨(mem_get hr).2 h4, by simpa using h5⟩
        have h6 : getG k (dels (ofG gs who) gs) = some z := (mem_get (rise_filter _ hr)).1 h1
        rw [h6] at h
        cases h
theorem of_free (gs : G) (who : Int) : ofG (freeG gs who) who = [] := by
  unfold ofG freeG
  rw [List.filter_filter, List.filter_eq_nil_iff.2]
  · rfl
  · intro p _
    by_cases h : p.2 = who <;> simp [h]
theorem busy_is {n k g i : Nat} (hn : 0 < n) (hk : k ≤ 64) (hi : i < k) : otherG (freeG (gsM k n) (g : Int)) (n : Int) (k1 i) = !(i % n == g) := by
  unfold otherG
  rw [free_get _ (gsM_rise hk), gsM_get hk (by omega), if_pos hi]
  have hlt := Nat.mod_lt i hn
  by_cases h : i % n = g
  · rw [if_pos (by rw [h])]; simp [h]
  · rw [if_neg (fun e => h (by injection e with e; omega))]
    have h1 : (((i % n : Nat) : Int) != (n : Int)) = true := by simp only [bne_iff_ne]; omega
    simp only [h1]
    simp [h]

end Go.Proofs.Ytciknhilbemgdaa.claimMany
