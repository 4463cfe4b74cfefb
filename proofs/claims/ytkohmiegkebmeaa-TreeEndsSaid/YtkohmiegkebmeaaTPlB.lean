/-
  mailbaglaw06.play: the rows that its turns leave, and its world.
-/
import Derived.Test.YtkohmiegkebmeaaTPlay
namespace Go.Proofs.Ytkohmiegkebmeaa.tP
open Go.RowKit Go.Proofs.Ytkohmiegkebmeaa.tI

set_option linter.unusedVariables false
set_option linter.unusedSimpArgs false

theorem slice_nil1 (W : World) : (Instr.slice 26 (.slice none 0 0) none (some (.int .i64 0)) (some (.int .i64 0))).run Try.prog W = .ok (.slice none 0 0) W := by
  go_simp
theorem slice_nil2 (W : World) : (Instr.slice 26 (.slice none 0 0) (some (.int .i64 0)) none none).run Try.prog W = .ok (.slice none 0 0) W := by
  go_simp

/-- the two parts of a list, as an insertion takes them -/
theorem parts {w : World} {B : Nat} {a : Option Addr} {c : Nat} {gs : List PI} (h : MRow w B (.slice a gs.length c) gs) (hc : gs.length ≤ c) (i : Nat) (hi : i ≤ gs.length) :
    ∃ (a1 a2 : Option Addr) (n2 c2 : Nat), (∀ W, (Instr.slice 26 (.slice a gs.length c) none (some (.int .i64 (i : Int))) (some (.int .i64 (i : Int)))).run Try.prog W = .ok (.slice a1 i i) W) ∧
      (∀ W, (Instr.slice 26 (.slice a gs.length c) (some (.int .i64 (i : Int))) none none).run Try.prog W = .ok (.slice a2 n2 c2) W) ∧
      ∀ W B', MRow W B' (.slice a gs.length c) gs → RRow W (.slice a1 i i) (gs.take i) ∧ RRow W (.slice a2 n2 c2) (gs.drop i) := by
  rcases h.2 with ⟨e, h0⟩ | ⟨g, cap, cur, e, _⟩
  · injection e with e1 e2 e3
    have hgs : gs = [] := List.eq_nil_of_length_eq_zero h0
    subst e1 e3 hgs
    have hi0 : i = 0 := by simpa using hi
    subst hi0
    exact ⟨none, none, 0, 0, slice_nil1, slice_nil2, fun W _ _ => ⟨.inl ⟨rfl, rfl⟩, .inl ⟨rfl, rfl⟩⟩⟩
  · injection e with e1 e2 e3
    subst e1 e3
    obtain ⟨off, hlo, hoff⟩ := slice_lo g gs.length c i hi hc
    refine ⟨some ⟨g, 0, none⟩, some ⟨g, off, none⟩, gs.length - i, c - i, slice_max g gs.length c i (by omega), hlo, fun W B' hW => ⟨?_, hW.dropped i (c - i) off hi hoff⟩⟩
    rcases hW.take i i hi with h1 | h1
    · exact h1
    · cases h1

abbrev PR := 26

theorem up_below {n : Nat} {W W2 : World} {v v' : Value} (h : Up W v W2 v') (hn : n ≤ W.heap.size) (hv : ∀ q, v.ownBlock = some q → n ≤ q) : Below n W W2 := (Below.refl n W).grown h.1 hn hv
theorem row_low {W : World} {B : Nat} {v : Value} {gs : List PI} (h : MRow W B v gs) : ∀ q, v.ownBlock = some q → B ≤ q := fun q hq => (World.ownsRow.lt h q hq).1
theorem row_up {n : Nat} {W W2 : World} {v v' : Value} {B : Nat} {gs : List PI} (h : MRow W2 B v' gs) (hu : Up W v W2 v') (hn : n ≤ W.heap.size) (hv : ∀ q, v.ownBlock = some q → n ≤ q) : MRow W2 n v' gs := by
  refine ⟨h.1, ?_⟩
  rcases h.2 with h2 | ⟨g, cap, cur, e1, e2, r⟩
  · exact .inl h2
  · refine .inr ⟨g, cap, cur, e1, ?_, r⟩
    have hg : v'.ownBlock = some g := by rw [e1]; rfl
    rcases hu.2 with h1 | h1
    · exact hv g (by rw [← h1]; exact hg)
    · have := h1 g hg; omega

/-- a list without one of its pairs, laid anew: the appends of a region that draws -/
theorem drop_list {W : World} {B : Nat} {g c : Nat} {gs : List PI} (h : MRow W B (.slice (some ⟨g, 0, none⟩) gs.length c) gs) (hc : gs.length ≤ c) (hl : gs.length ≤ 1000) (i : Nat) (hi : i < gs.length) :
    ∃ off a2 k2 W2 a3 k3 W3, (∀ W', (Instr.slice PR (.slice (some ⟨g, 0, none⟩) gs.length c) (some (.int .i64 ((i : Int) + 1))) none none).run Try.prog W' = .ok (.slice (some ⟨g, off, none⟩) (gs.length - (i + 1)) (c - (i + 1))) W') ∧
      (∀ W', (Instr.slice PR (.slice (some ⟨g, 0, none⟩) gs.length c) none (some (.int .i64 (i : Int))) none).run Try.prog W' = .ok (.slice (some ⟨g, 0, none⟩) i c) W') ∧
      (Builtin.append_ #[PR, PR] PR #[.slice (some ⟨W.heap.size, 0, none⟩) 0 0, .slice (some ⟨g, 0, none⟩) i c]).run Try.prog (W.alloc (.cells #[] 33)).drew = .ok (.slice a2 i k2) W2 ∧
      (Builtin.append_ #[PR, PR] PR #[.slice a2 i k2, .slice (some ⟨g, off, none⟩) (gs.length - (i + 1)) (c - (i + 1))]).run Try.prog W2 = .ok (.slice a3 (gs.length - 1) k3) W3 ∧
      MRow W3 W.heap.size (.slice a3 (gs.length - 1) k3) (gs.take i ++ gs.drop (i + 1)) ∧ Below W.heap.size W W3 := by
  obtain ⟨off, hlo, hoff⟩ := slice_lo g gs.length c (i + 1) (by omega) hc
  have hhi := fun W => slice_hi W g gs.length c i (by omega)
  rw [show ((i + 1 : Nat) : Int) = (i : Int) + 1 by omega] at hlo
  have hb : Below W.heap.size W (W.alloc (.cells #[] 33)).drew := ((Below.refl _ W).alloc (Nat.le_refl _) _).drew
  have hr : MRow (W.alloc (.cells #[] 33)).drew B (.slice (some ⟨g, 0, none⟩) gs.length c) gs := h.keep fun q hq => hb.block q (World.ownsRow.lt h q hq).2
  have hx : RRow (W.alloc (.cells #[] 33)).drew (.slice (some ⟨g, 0, none⟩) i c) (gs.take i) := by
    rcases hr.take i c (by omega) with h1 | h1
    · exact h1
    · cases h1
  have he : MRow (W.alloc (.cells #[] 33)).drew W.heap.size (.slice (some ⟨W.heap.size, 0, none⟩) 0 0) [] := row_empty W W.heap.size (Nat.le_refl _)
  obtain ⟨a2, k2, W2, hrun, hm2, hu2⟩ := app_own (W.alloc (.cells #[] 33)).drew W.heap.size _ [] he _ _ hx hb.size (by simp; omega) PR
  have e : ([] : List PI).length + (gs.take i).length = i := by rw [List.length_take]; simp; omega
  rw [e] at hrun hm2 hu2
  have hb2 : Below W.heap.size W W2 := hb.trans (up_below hu2 hb.size (row_low he))
  have hr2 : MRow W2 B (.slice (some ⟨g, 0, none⟩) gs.length c) gs := h.keep fun q hq => hb2.block q (World.ownsRow.lt h q hq).2
  have hx2 := hr2.dropped (i + 1) (c - (i + 1)) off (by omega) hoff
  obtain ⟨a3, k3, W3, hrun3, hm3, hu3⟩ := app_own W2 W.heap.size _ _ hm2 _ _ hx2 hb2.size (by rw [List.length_append] <;> simp <;> omega) PR
  have e3 : (([] : List PI) ++ gs.take i).length + (gs.drop (i + 1)).length = gs.length - 1 := by simp; omega
  rw [e3] at hrun3 hm3 hu3
  rw [List.nil_append] at hm3
  exact ⟨off, a2, k2, W2, a3, k3, W3, hlo, hhi, hrun, hrun3, hm3, hb2.trans (up_below hu3 hb2.size (row_low hm2))⟩

/-- a list laid anew -/
theorem copy_list {W : World} {B : Nat} {v : Value} {gs : List PI} (h : MRow W B v gs) (hl : gs.length ≤ 1000) :
    ∃ a2 k2 W2, (Builtin.append_ #[PR, PR] PR #[.slice (some ⟨W.heap.size, 0, none⟩) 0 0, v]).run Try.prog (W.alloc (.cells #[] 33)) = .ok (.slice a2 gs.length k2) W2 ∧
      MRow W2 W.heap.size (.slice a2 gs.length k2) gs ∧ Below W.heap.size W W2 := by
  have hb : Below W.heap.size W (W.alloc (.cells #[] 33)) := (Below.refl _ W).alloc (Nat.le_refl _) _
  have hr : MRow (W.alloc (.cells #[] 33)) B v gs := h.keep fun q hq => hb.block q (World.ownsRow.lt h q hq).2
  have he := row_empty W W.heap.size (Nat.le_refl _)
  obtain ⟨a2, k2, W2, hrun, hm2, hu2⟩ := app_own _ W.heap.size _ [] he _ _ hr.rrow hb.size (by simp; omega) PR
  rw [List.nil_append] at hm2
  rw [show ([] : List PI).length + gs.length = gs.length by simp] at hrun hm2 hu2
  exact ⟨a2, k2, W2, hrun, hm2, hb.trans (up_below hu2 hb.size (row_low he))⟩

/-- a list with one pair more, laid anew -/
theorem ins_list {W : World} {B : Nat} {a : Option Addr} {c : Nat} {gs : List PI} (h : MRow W B (.slice a gs.length c) gs) (hc : gs.length ≤ c) (hl : gs.length ≤ 1000) (i : Nat) (hi : i ≤ gs.length) (key : ByteArray) (z : Int) :
    ∃ a1 a2 n2 c2 a3 n3 k3 W3 a5 k5 W5 a6 k6 W6, (∀ W', (Instr.slice PR (.slice a gs.length c) none (some (.int .i64 (i : Int))) (some (.int .i64 (i : Int)))).run Try.prog W' = .ok (.slice a1 i i) W') ∧
      (∀ W', (Instr.slice PR (.slice a gs.length c) (some (.int .i64 (i : Int))) none none).run Try.prog W' = .ok (.slice a2 n2 c2) W') ∧
      (Builtin.append_ #[PR, PR] PR #[.slice (some ⟨W.heap.size, 0, none⟩) 0 0, .slice a2 n2 c2]).run Try.prog (W.alloc (.cells #[] 33)) = .ok (.slice a3 n3 k3) W3 ∧ Below W.heap.size W W3 ∧
      (Builtin.append_ #[PR, PR] PR #[.slice a1 i i, .slice (some ⟨W3.heap.size, 0, none⟩) 1 1]).run Try.prog (W3.alloc (.cells #[.string key, .int .i64 z] 33)).drew = .ok (.slice a5 (i + 1) k5) W5 ∧
      (Builtin.append_ #[PR, PR] PR #[.slice a5 (i + 1) k5, .slice a3 n3 k3]).run Try.prog W5 = .ok (.slice a6 (gs.length + 1) k6) W6 ∧
      MRow W6 W.heap.size (.slice a6 (gs.length + 1) k6) ((gs.take i ++ [(key, z)]) ++ gs.drop i) ∧ Below W.heap.size W W6 := by
  obtain ⟨a1, a2, n2, c2, hs1, hs2, hparts⟩ := parts h hc i hi
  have hb : Below W.heap.size W (W.alloc (.cells #[] 33)) := (Below.refl _ W).alloc (Nat.le_refl _) _
  have hr : MRow (W.alloc (.cells #[] 33)) B (.slice a gs.length c) gs := h.keep fun q hq => hb.block q (World.ownsRow.lt h q hq).2
  have he := row_empty W W.heap.size (Nat.le_refl _)
  obtain ⟨a3, k3, W3, hrun3, hm3, hu3⟩ := app_own _ W.heap.size _ [] he _ _ (hparts _ _ hr).2 hb.size (by simp; omega) PR
  rw [List.nil_append] at hm3
  have hb3 : Below W.heap.size W W3 := hb.trans (up_below hu3 hb.size (row_low he))
  have hb4 : Below W3.heap.size W3 (W3.alloc (.cells #[.string key, .int .i64 z] 33)).drew := ((Below.refl _ W3).alloc (Nat.le_refl _) _).drew
  have hr4 : MRow (W3.alloc (.cells #[.string key, .int .i64 z] 33)).drew B (.slice a gs.length c) gs := h.keep fun q hq => (hb3.trans (hb4.mono hb3.size)).block q (World.ownsRow.lt h q hq).2
  have hx : RRow (W3.alloc (.cells #[.string key, .int .i64 z] 33)).drew (.slice (some ⟨W3.heap.size, 0, none⟩) 1 1) [(key, z)] := .inr ⟨_, 1, rfl, fun j u hj => by
    have h1 : (rcells [(key, z)]) = [.string key, .int .i64 z] := by unfold rcells fcells; rfl
    rw [h1] at hj
    exact World.news_of_block (w := (W3.alloc (.cells #[.string key, .int .i64 z] 33)).drew) (heap_alloc_new W3 (.cells #[.string key, .int .i64 z] 33)) j u (by simpa using hj)⟩
  obtain ⟨a5, k5, W5, hrun5, hm5, hg5⟩ := app_clip _ a1 i (gs.take i) [(key, z)] (by rw [List.length_take]; omega) (hparts _ _ hr4).1 _ hx (by simp) (by rw [List.length_take]; simp; omega) PR
  have hb5 : Below W3.heap.size W3 W5 := hb4.grown hg5 hb4.size (fun q hq => by cases hq)
  have hm3' : MRow W5 W.heap.size (.slice a3 (([] : List PI).length + (gs.drop i).length) k3) (gs.drop i) := hm3.keep fun q hq => hb5.block q (World.ownsRow.lt hm3 q hq).2
  obtain ⟨a6, k6, W6, hrun6, hm6, hu6⟩ := app_own W5 (W3.alloc (.cells #[.string key, .int .i64 z] 33)).drew.heap.size _ _ hm5 _ _ hm3'.rrow (by have := hg5.size; omega) (by rw [List.length_append, List.length_take, List.length_drop]; simp; omega) PR
  have e6 : (gs.take i ++ [(key, z)]).length + (gs.drop i).length = gs.length + 1 := by rw [List.length_append, List.length_take, List.length_drop]; simp; omega
  rw [e6] at hrun6 hm6 hu6
  have hz3 := hb3.size
  have hz4 := hb4.size
  refine ⟨a1, a2, n2, c2, a3, _, k3, W3, a5, k5, W5, a6, k6, W6, hs1, hs2, hrun3, hb3, hrun5, hrun6, hm6.mono (by omega), ?_⟩
  exact (hb3.trans (hb5.mono hz3)).grown hu6.1 (by have := hb5.size; omega) fun q hq => by
    have := (World.ownsRow.lt hm5 q hq).1
    omega

/-- the tree and the list behind k acts -/
def PlB (w W : World) (t : Nat) (v : Value) (ps : List PI) (k : Nat) : Prop :=
  Below w.heap.size w W ∧ ps.length ≤ k ∧ TX w.heap.size (fun q => v.ownBlock = some q) W t (kv ps) ∧ MRow W w.heap.size v ps
/-- .. in a round: the act in a box of its own; the tree holds m -/
def PlX (X : Nat → Prop) (w W : World) (t : Nat) (v : Value) (ab : Nat) (ps : List PI) (x : AC) (m : List KV) : Prop :=
  Below w.heap.size w W ∧ TX w.heap.size X W t m ∧ MRow W w.heap.size v ps ∧ Box W ab 62 #[.int .i64 x.k, .int .i64 x.n, .string x.key] ∧ (w.heap.size ≤ ab ∧ v.ownBlock ≠ some ab) ∧ (∀ q, v.ownBlock = some q ∨ q = ab → X q) ∧ ∀ q, X q → q < W.heap.size
def X2 (v : Value) (ab : Nat) (q : Nat) : Prop := v.ownBlock = some q ∨ q = ab

theorem PlB.act {w W : World} {t : Nat} {v : Value} {ps : List PI} {k : Nat} (h : PlB w W t v ps k) (x : AC) : PlX (X2 v W.heap.size) w (W.alloc (.cells #[.int .i64 x.k, .int .i64 x.n, .string x.key] 62)) t v W.heap.size ps x (kv ps) := by
  obtain ⟨h1, h2, h3, h4⟩ := h
  have hb := (Below.refl _ W).alloc (Nat.le_refl _) (.cells #[.int .i64 x.k, .int .i64 x.n, .string x.key] 62)
  have hz := h1.size
  have hlt : ∀ q, v.ownBlock = some q → q < W.heap.size := fun q hq => (World.ownsRow.lt h4 q hq).2
  obtain ⟨ls, hT, e⟩ := h3
  refine ⟨h1.alloc h1.size _, ⟨ls, hT.keep fun q hq hl => ⟨hb.block q hl, hq.1, fun hx => ?_⟩, e⟩, h4.keep fun q hq => hb.block q (hlt q hq), Box.new W _ _, ⟨hz, fun e => by have := hlt _ e; omega⟩, fun q hq => hq, fun q hq => ?_⟩
  · rcases hx with hx | hx
    · exact hq.2 hx
    · omega
  · rcases hq with hq | hq
    · have := hlt q hq; simp; omega
    · simp; omega

theorem PlX.below {X : Nat → Prop} {w W W' : World} {t : Nat} {v : Value} {ab : Nat} {ps : List PI} {x : AC} {m : List KV} (h : PlX X w W t v ab ps x m) (hb : Below W.heap.size W W') : PlX X w W' t v ab ps x m := by
  obtain ⟨h1, h3, h4, h5, h6, h7, h8⟩ := h
  exact ⟨h1.trans (hb.mono h1.size), h3.below hb, h4.keep fun q hq => hb.block q (World.ownsRow.lt h4 q hq).2, (hb.block _ h5.lt).trans h5, h6, h7, fun q hq => Nat.lt_of_lt_of_le (h8 q hq) hb.size⟩

theorem PlX.reads {X : Nat → Prop} {w W : World} {t : Nat} {a : Option Addr} {n c : Nat} {ab : Nat} {ps : List PI} {x : AC} {m : List KV} (h : PlX X w W t (.slice a n c) ab ps x m) : (W.cell? ⟨ab, 0, none⟩ = some (.int .i64 x.k) ∧ W.cell? ⟨ab, 1, none⟩ = some (.int .i64 x.n) ∧ W.cell? ⟨ab, 2, none⟩ = some (.string x.key)) ∧ (0 < ps.length → ∃ g, a = some ⟨g, 0, none⟩ ∧ ∀ i (hi : i < ps.length), W.cell? ⟨g, i * 2, none⟩ = some (.string (ps[i]).1) ∧ W.cell? ⟨g, i * 2 + 1, none⟩ = some (.int .i64 (ps[i]).2)) := by
  refine ⟨⟨h.2.2.2.1.cell 0, h.2.2.2.1.cell 1, h.2.2.2.1.cell 2⟩, fun h0 => ?_⟩
  obtain ⟨g, rfl, _⟩ := h.2.2.1.blk h0
  exact ⟨g, rfl, fun i hi => h.2.2.1.cell i hi⟩

theorem PlX.turn {X : Nat → Prop} {w W W' : World} {t : Nat} {v : Value} {ab : Nat} {ps : List PI} {x : AC} {m m' : List KV} (h : PlX X w W t v ab ps x m) (hk : Kept w.heap.size X W W') (hT : TX w.heap.size X W' t m') : PlX X w W' t v ab ps x m' := by
  obtain ⟨h1, h3, h4, h5, h6, h7, h8⟩ := h
  have hz := hk.1.size
  exact ⟨h1.trans hk.1, hT, h4.keep fun q hq => hk.2 q (h7 q (.inl hq)), (hk.2 ab (h7 ab (.inr rfl))).trans h5, h6, h7, fun q hq => Nat.lt_of_lt_of_le (h8 q hq) hz⟩

theorem PlX.same {X : Nat → Prop} {w W : World} {t : Nat} {v : Value} {ab : Nat} {ps : List PI} {x : AC} {m : List KV} (h : PlX X w W t v ab ps x m) (hm : m = kv ps) {k : Nat} (hk : ps.length ≤ k) : PlB w W t v ps k := by
  subst hm
  obtain ⟨h1, h3, h4, h5, h6, h7, h8⟩ := h
  exact ⟨h1, hk, h3.wider fun q hq _ => h7 q (.inl hq), h4⟩

/-- a new list, in a block that is new -/
theorem PlX.list {X : Nat → Prop} {w W W' : World} {t : Nat} {v : Value} {ab : Nat} {ps : List PI} {x : AC} {m : List KV} (h : PlX X w W t v ab ps x m) {v' : Value} {ps' : List PI} (hm : m = kv ps') (hb : Below W.heap.size W W') (hr : MRow W' W.heap.size v' ps') {k : Nat} (hk : ps'.length ≤ k) : PlB w W' t v' ps' k := by
  subst hm
  obtain ⟨h1, h3, h4, h5, h6, h7, h8⟩ := h
  obtain ⟨ls, hT, e⟩ := h3
  refine ⟨h1.trans (hb.mono h1.size), hk, ⟨ls, hT.keep fun q hq hl => ⟨hb.block q hl, hq.1, fun hx => ?_⟩, e⟩, hr.mono h1.size⟩
  have := (World.ownsRow.lt hr q hx).1
  omega

/-- the clone's blocks are none of the old tree's -/
def X3 (X : Nat → Prop) (s0 s1 : Nat) (q : Nat) : Prop := X q ∨ (s0 ≤ q ∧ q < s1)
theorem PlX.cloned {X : Nat → Prop} {w W W' : World} {t : Nat} {v : Value} {ab : Nat} {ps : List PI} {x : AC} {m : List KV} (h : PlX X w W t v ab ps x m) (hb : Below W.heap.size W W') : PlX (X3 X W.heap.size W'.heap.size) w W' t v ab ps x m := by
  obtain ⟨h1, h3, h4, h5, h6, h7, h8⟩ := h.below hb
  obtain ⟨ls, hT, e⟩ := h.2.1
  have hz := hb.size
  refine ⟨h1, ⟨ls, hT.keep fun q hq hl => ⟨hb.block q hl, hq.1, fun hx => ?_⟩, e⟩, h4, h5, h6, fun q hq => .inl (h7 q hq), fun q hq => ?_⟩
  · rcases hx with hx | hx
    · exact hq.2 hx
    · omega
  · rcases hq with hq | hq
    · exact h8 q hq
    · exact hq.2

/-- the clone behind the old tree's turns -/
def Cl (W0 W1 : World) (t2 : Nat) (m : List KV) (X : Nat → Prop) (n : Nat) (W : World) : Prop := TX W0.heap.size (fun _ => False) W1 t2 m ∧ Kept n (X3 X W0.heap.size W1.heap.size) W1 W
theorem PlX.clone {X : Nat → Prop} {w W0 W1 W : World} {t t2 : Nat} {v : Value} {ab : Nat} {ps : List PI} {x : AC} {m m' : List KV} (h : PlX (X3 X W0.heap.size W1.heap.size) w W t v ab ps x m') (hc : Cl W0 W1 t2 m X w.heap.size W) (hv : ∀ q, v.ownBlock = some q → q < W0.heap.size) (hw : w.heap.size ≤ W0.heap.size) (hm : m = kv ps) {k : Nat} (hk : ps.length ≤ k) : PlB w W t2 v ps k := by
  subst hm
  obtain ⟨h1, h3, h4, h5, h6, h7, h8⟩ := h
  obtain ⟨⟨ls, hT, e⟩, hK⟩ := hc
  refine ⟨h1, hk, ⟨ls, hT.keep fun q hq hl => ⟨hK.2 q (.inr ⟨hq.1, hl⟩), by have := hq.1; omega, fun hx => ?_⟩, e⟩, h4⟩
  have := hv q hx
  have := hq.1
  omega
theorem Kept.trans {n : Nat} {X : Nat → Prop} {W W1 W2 : World} (h : Kept n X W W1) (k : Kept n X W1 W2) : Kept n X W W2 := ⟨h.1.trans k.1, fun q hq => (k.2 q hq).trans (h.2 q hq)⟩
theorem Kept.below {n : Nat} {X : Nat → Prop} {W W1 : World} (hX : ∀ q, X q → q < W.heap.size) (hn : n ≤ W.heap.size) (hb : Below W.heap.size W W1) : Kept n X W W1 := ⟨hb.mono hn, fun q hq => hb.block q (hX q hq)⟩

end Go.Proofs.Ytkohmiegkebmeaa.tP
