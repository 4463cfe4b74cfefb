/-
  mailbaglaw06.play: a tree beside a list of pairs, behind whatever acts.
-/
import Derived.Test.YtkohmiegkebmeaaTPlA
import Derived.StillTailTactics
import Derived.Outline
namespace Go.Proofs.Ytkohmiegkebmeaa.tP
open Go.RowKit Go.Proofs.Ytkohmiegkebmeaa.tI

set_option linter.unusedVariables false
set_option linter.unusedSimpArgs false

def kv (ps : List PI) : List KV := ps.map fun p => (p.1, .int .i64 p.2)
theorem kv_length (ps : List PI) : (kv ps).length = ps.length := by simp [kv]
theorem kv_append (a b : List PI) : kv (a ++ b) = kv a ++ kv b := by simp [kv]
theorem kv_keys (ps : List PI) : keysOf (kv ps) = ps.map Prod.fst := by simp [kv, keysOf]

def atK (ps : List PI) (key : ByteArray) : Nat := atB (keysOf (kv ps)) key

theorem at_le (ps : List PI) (key : ByteArray) : atK ps key ≤ ps.length := by
  have := atB_le (keysOf (kv ps)) key
  rw [kv_keys, List.length_map] at this
  unfold atK
  rw [kv_keys]
  exact this
theorem at_lt {ps : List PI} (hr : RiseB (keysOf (kv ps))) (key : ByteArray) (j : Nat) (h : j < ps.length) : Lt (ps[j]).1 key ↔ j < atK ps key := by
  have h2 : j < (keysOf (kv ps)).length := by rw [kv_keys, List.length_map]; exact h
  have := atB_lt hr j h2 (k := key)
  unfold atK
  rw [← this]
  have e : (keysOf (kv ps))[j] = (ps[j]).1 := by simp [keysOf, kv]
  rw [e]

/-- the list cut where a key is, or would come to be -/
theorem split_key {ps : List PI} (hr : RiseB (keysOf (kv ps))) (key : ByteArray) :
    (∃ h : atK ps key < ps.length, (ps[atK ps key]).1 = key ∧ (getK (kv ps) key).isSome = true ∧ (∀ v, putK (kv ps) key (.int .i64 v) = kv (ps.set (atK ps key) (key, v))) ∧ dropK (kv ps) key = kv (ps.take (atK ps key) ++ ps.drop (atK ps key + 1))) ∨
    ((∀ h : atK ps key < ps.length, (ps[atK ps key]).1 ≠ key) ∧ (getK (kv ps) key).isSome = false ∧ (∀ v, putK (kv ps) key (.int .i64 v) = kv ((ps.take (atK ps key) ++ [(key, v)]) ++ ps.drop (atK ps key))) ∧ dropK (kv ps) key = kv ps) := by
  obtain ⟨h1, h2, h3, h4⟩ := leaf_split hr key
  have hle := at_le ps key
  have hlt := at_lt hr key
  obtain ⟨i, hi⟩ : ∃ i, i = atK ps key := ⟨_, rfl⟩
  have hi2 : atB (keysOf (kv ps)) key = i := by rw [hi]; rfl
  rw [hi2] at h1 h2 h3 h4
  rw [← hi] at hle hlt ⊢
  have htk : (kv ps).take i = kv (ps.take i) := by simp [kv, List.map_take]
  have hdk : ∀ n, (kv ps).drop n = kv (ps.drop n) := fun n => by simp [kv, List.map_drop]
  by_cases hb : isB (keysOf (kv ps)) key = true
  · obtain ⟨hil, hk, hab⟩ := h3 hb
    rw [kv_length] at hil
    have hk' : (ps[i]).1 = key := by rw [← hk]; simp [kv]
    have hsp : ps = ps.take i ++ ps[i] :: ps.drop (i + 1) := by rw [← List.drop_eq_getElem_cons hil, List.take_append_drop]
    have hkv : kv ps = kv (ps.take i) ++ (key, Value.int .i64 (ps[i]).2) :: kv (ps.drop (i + 1)) := by
      conv => lhs; rw [hsp]
      rw [kv_append, ← hk']
      rfl
    obtain ⟨o1, o2, o3⟩ := ops_is (X := kv (ps.take i)) (Y := kv (ps.drop (i + 1))) (key := key) (v := .int .i64 (ps[i]).2) (by rw [← htk]; exact h2) (by rw [← hdk]; exact hab)
    refine .inl ⟨hil, hk', by rw [hkv, o1]; rfl, fun v => ?_, by rw [hkv, o3, kv_append]⟩
    rw [hkv, o2, List.set_eq_take_append_cons_drop, if_pos hil, kv_append]
    rfl
  · have hb' : isB (keysOf (kv ps)) key = false := by simpa using hb
    have hab := h4 hb'
    have hsp : ps = ps.take i ++ ps.drop i := (List.take_append_drop _ _).symm
    have hkv : kv ps = kv (ps.take i) ++ kv (ps.drop i) := by
      conv => lhs; rw [hsp]
      rw [kv_append]
    obtain ⟨o1, o2, o3⟩ := ops_no (X := kv (ps.take i)) (Y := kv (ps.drop i)) (key := key) (by rw [← htk]; exact h2) (by rw [← hdk]; exact hab)
    refine .inr ⟨fun hil e => ?_, by rw [hkv, o1]; rfl, fun v => ?_, by rw [hkv, o3]⟩
    · refine hb (isB_iff.2 ?_)
      rw [kv_keys, ← e]
      exact List.mem_map.2 ⟨_, List.getElem_mem hil, rfl⟩
    · rw [hkv, o2, kv_append, kv_append]
      simp [kv]

theorem less_key (a b : ByteArray) : Op.bytesLess a.toList b.toList = true ↔ Lt a b := by
  rw [Proofs.bytesLess_eq, Lib.toList_data, Lib.toList_data, decide_eq_true_eq]
  exact Iff.rfl
theorem same_key (a b : ByteArray) : (a.toList == b.toList) = true ↔ a = b := by
  rw [beq_iff_eq, Lib.toList_data, Lib.toList_data]
  exact ⟨fun h => ByteArray.ext (Array.toList_inj.1 h), fun h => by rw [h]⟩

theorem and_mask2 (n : Int) : bits .and .i64 n 3 = n % 4 := by
  have hc : (BitVec.ofInt 64 3).toNat = 2 ^ 2 - 1 := by decide
  have key : (BitVec.ofInt 64 n &&& BitVec.ofInt 64 3).toNat = (n % ((2 ^ 64 : Nat) : Int)).toNat % 2 ^ 2 := by
    rw [BitVec.toNat_and, BitVec.toNat_ofInt, hc, Nat.and_two_pow_sub_one_eq_mod]
  show IntKind.i64.wrap ((BitVec.ofInt 64 n &&& BitVec.ofInt 64 3).toNat : Nat) = n % 4
  rw [key, IntKind.wrap_i64]
  omega

/-- the tree and the list behind k acts -/
def Pl (w W : World) (t g c : Nat) (ps : List PI) (k : Nat) : Prop :=
  Below w.heap.size w W ∧ ps.length ≤ k ∧ ps.length ≤ c ∧ TX w.heap.size (fun q => q = g) W t (kv ps) ∧ MRow W w.heap.size (.slice (some ⟨g, 0, none⟩) ps.length c) ps ∧ g < W.heap.size ∧ w.heap.size ≤ g

/-- .. with a round's act in a box of its own -/
def PlA (w W : World) (t g c ab : Nat) (ps : List PI) (x : AC) : Prop :=
  Below w.heap.size w W ∧ TX w.heap.size (fun q => q = g ∨ q = ab) W t (kv ps) ∧ MRow W w.heap.size (.slice (some ⟨g, 0, none⟩) ps.length c) ps ∧ (g < W.heap.size ∧ ab < W.heap.size ∧ g ≠ ab ∧ w.heap.size ≤ g ∧ w.heap.size ≤ ab) ∧ Box W ab 62 #[.int .i64 x.k, .int .i64 x.n, .string x.key]

theorem Pl.act {w W : World} {t g c : Nat} {ps : List PI} {k : Nat} (h : Pl w W t g c ps k) (x : AC) : PlA w (W.alloc (.cells #[.int .i64 x.k, .int .i64 x.n, .string x.key] 62)) t g c W.heap.size ps x := by
  obtain ⟨h1, h2, h2b, h3, h4, h5, h6⟩ := h
  have hb := (Below.refl _ W).alloc (Nat.le_refl _) (.cells #[.int .i64 x.k, .int .i64 x.n, .string x.key] 62)
  have hz := h1.size
  obtain ⟨ls, hT, e⟩ := h3
  refine ⟨h1.alloc h1.size _, ⟨ls, hT.keep fun q hq hl => ⟨hb.block q hl, hq.1, fun hx => ?_⟩, e⟩, h4.keep fun q hq => hb.block q (World.ownsRow.lt h4 q hq).2, ⟨by simp; omega, by simp, by omega, h6, hz⟩, Box.new W _ _⟩
  rcases hx with hx | hx
  · exact hq.2 hx
  · omega

theorem PlA.below {w W W' : World} {t g c ab : Nat} {ps : List PI} {x : AC} (h : PlA w W t g c ab ps x) (hb : Below W.heap.size W W') : PlA w W' t g c ab ps x := by
  obtain ⟨h1, h3, h4, ⟨h5, h6, h7, h8, h9⟩, h10⟩ := h
  have hz := hb.size
  exact ⟨h1.trans (hb.mono h1.size), h3.below hb, h4.keep fun q hq => hb.block q (World.ownsRow.lt h4 q hq).2, ⟨by omega, by omega, h7, h8, h9⟩, (hb.block _ h6).trans h10⟩

/-- what lies there -/
theorem PlA.reads {w W : World} {t g c ab : Nat} {ps : List PI} {x : AC} (h : PlA w W t g c ab ps x) : W.cell? ⟨ab, 0, none⟩ = some (.int .i64 x.k) ∧ W.cell? ⟨ab, 1, none⟩ = some (.int .i64 x.n) ∧ W.cell? ⟨ab, 2, none⟩ = some (.string x.key) ∧ ∀ i (hi : i < ps.length), W.cell? ⟨g, i * 2, none⟩ = some (.string (ps[i]).1) ∧ W.cell? ⟨g, i * 2 + 1, none⟩ = some (.int .i64 (ps[i]).2) :=
  ⟨h.2.2.2.2.cell 0, h.2.2.2.2.cell 1, h.2.2.2.2.cell 2, fun i hi => h.2.2.1.cell i hi⟩

theorem below_drewN {n : Nat} {a W : World} (h : Below n a W) (q : Nat) : Below n a (W.drewN q) := ⟨h.os, h.tape, h.output, h.size, h.block⟩

theorem PlA.turn {w W W' : World} {t g c ab : Nat} {ps : List PI} {x : AC} {m : List KV} (h : PlA w W t g c ab ps x) (hk : Kept w.heap.size (fun q => q = g ∨ q = ab) W W') (hT : TX w.heap.size (fun q => q = g ∨ q = ab) W' t m) :
    Below w.heap.size w W' ∧ TX w.heap.size (fun q => q = g ∨ q = ab) W' t m ∧ MRow W' w.heap.size (.slice (some ⟨g, 0, none⟩) ps.length c) ps ∧ (g < W'.heap.size ∧ ab < W'.heap.size ∧ g ≠ ab ∧ w.heap.size ≤ g ∧ w.heap.size ≤ ab) ∧ Box W' ab 62 #[.int .i64 x.k, .int .i64 x.n, .string x.key] := by
  obtain ⟨h1, h3, h4, ⟨h5, h6, h7, h8, h9⟩, h10⟩ := h
  have hz := hk.1.size
  exact ⟨h1.trans hk.1, hT, h4.keep fun q hq => hk.2 q (.inl (by simpa [Value.ownBlock] using hq.symm)), ⟨by omega, by omega, h7, h8, h9⟩, (hk.2 ab (.inr rfl)).trans h10⟩

/-- a new list, in a block that is new -/
theorem PlA.list {w W W' : World} {t g c ab : Nat} {ps ps' : List PI} {x : AC} {g' c' k : Nat} {m : List KV} (hb0 : Below w.heap.size w W) (hT : TX w.heap.size (fun q => q = g ∨ q = ab) W t m) (hm : m = kv ps') (hb : Below W.heap.size W W') (hr : MRow W' w.heap.size (.slice (some ⟨g', 0, none⟩) ps'.length c') ps') (hg : W.heap.size ≤ g') (hk : ps'.length ≤ k) : Pl w W' t g' c' ps' k := by
  subst hm
  have hz := hb0.size
  obtain ⟨a, c2, e, hc⟩ := hr.form
  injection e with _ _ e3
  obtain ⟨ls, hTr, e⟩ := hT
  refine ⟨hb0.trans (hb.mono hz), hk, by omega, ⟨ls, hTr.keep fun q hq hl => ⟨hb.block q hl, hq.1, fun hx => by omega⟩, e⟩, hr, (World.ownsRow.lt hr g' rfl).2, by omega⟩

end Go.Proofs.Ytkohmiegkebmeaa.tP
