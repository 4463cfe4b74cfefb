/-
  store: seen: its walk.
-/
import Derived.Test.YtcebnoapgceodaaStSe
namespace Go.Proofs.Ytcebnoapgceodaa.sT
open Go.RowKit Go.Proofs.Ytcebnoapgceodaa.tC Go.Proofs.Ytcebnoapgceodaa.rgR

set_option linter.unusedVariables false
set_option linter.unusedSimpArgs false
attribute [local go_sem] Oper.semAt_some

/-- what seen answers -/
def SeenP (W : World) (L : List Wr) (e : Ending) (W' : World) : Prop := ∃ a c, e = .returned (.slice a L.length c) ∧ RowK 48 3 W.heap.size W' (.slice a L.length c) L.length (L.flatMap wrcells) ∧ Below W.heap.size W W'

/-- the writes that have been told -/
def foundK (ks : KL) (seq : Int) (pre : List KV) : List Wr := pre.filterMap (verK ks seq)
/-- between two rounds -/
def SeI (ks : KL) (seq : Int) (most : Nat) (W6 : World) (cs cm bl : Nat) (pre : List KV) (W' : World) : Prop :=
  Boxed W' cs 3 (.int .i64 seq) ∧ Boxed W' cm 3 (.int .i64 (most : Int)) ∧ (∃ a c, Boxed W' bl 22 (.slice a (foundK ks seq pre).length c) ∧ RowK 48 3 (W6.heap.size + 3) W' (.slice a (foundK ks seq pre).length c) (foundK ks seq pre).length ((foundK ks seq pre).flatMap wrcells)) ∧ Below bl W6 W'

theorem SeI.own {ks : KL} {seq : Int} {most : Nat} {W6 : World} {cs cm bl : Nat} (h1 : cs < bl) (h2 : cm < bl) (h3 : bl < W6.heap.size) : OwnFrom W6.heap.size (fun pre : List KV => SeI ks seq most W6 cs cm bl pre) := by
  rintro pre X Y row ⟨k1, k2, ⟨a, c, k3, k4⟩, k5⟩ hg hr
  refine ⟨k1.kept hg (fun e => by have := (hr cs e.symm).1; omega), k2.kept hg (fun e => by have := (hr cm e.symm).1; omega), ⟨a, c, k3.kept hg (fun e => by have := (hr bl e.symm).1; omega), k4.keep fun q hq => ⟨hg.block q (k4.lt q hq).2 fun e => ?_, (k4.lt q hq).1⟩⟩, ownFrom_below (β := Unit) (by omega) (by omega) () X Y row k5 hg hr⟩
  obtain ⟨o, ho, hc⟩ := (hr q e.symm).2
  obtain ⟨arr, hb⟩ := rowk_box k4 hq
  rw [show X.heap[q]? = some (.cells arr 48 (0, 0)) from hb] at ho
  injection ho with ho
  subst ho
  cases hc

theorem found_snoc (ks : KL) (seq : Int) (pre : List KV) (x : KV) : foundK ks seq (pre ++ [x]) = foundK ks seq pre ++ (match verK ks seq x with | none => [] | some w => [w]) := by
  unfold foundK
  rw [List.filterMap_append]
  congr 1
  rw [List.filterMap_cons]
  cases verK ks seq x <;> rfl

/-- what a round keeps -/
def SeK (W6 : World) (B : Nat → Prop) (W' W2 : World) : Prop := (KeepsFrom W6.heap.size W' W2 ∧ SameIn (W6.heap.size + 2) 1 W' W2) ∧ KpB B W6.heap.size W' W2

theorem se_skip {ks : KL} {seq : Int} {most : Nat} {W6 : World} {cs cm bl : Nat} {B : Nat → Prop} {pre : List KV} {x : KV} {W' w4 : World} (h : SeI ks seq most W6 cs cm bl pre W') (hb : Below W'.heap.size W' w4) (hl : bl < W6.heap.size) (hbig : W6.heap.size + 3 ≤ W'.heap.size) (hx : verK ks seq x = none) : SeK W6 B W' w4 ∧ SeI ks seq most W6 cs cm bl (pre ++ [x]) w4 := by
  obtain ⟨k1, k2, ⟨a, c, k3, k4⟩, k5⟩ := h
  have e : foundK ks seq (pre ++ [x]) = foundK ks seq pre := by rw [found_snoc, hx]; simp
  have hblk : ∀ {q : Nat} {t : TypeId} {v : Value}, Boxed W' q t v → Boxed w4 q t v := fun hq => (hb.block _ hq.lt).trans hq
  refine ⟨⟨⟨⟨hb.size, fun k o _ hk _ => (hb.block k (Array.getElem?_eq_some_iff.1 hk).1).trans hk⟩, fun q h1 h2 => hb.block q (by omega)⟩, ⟨hb.size, fun q _ h2 => hb.block q (by omega)⟩⟩, hblk k1, hblk k2, ⟨a, c, ?_, ?_⟩, k5.trans (hb.mono (by omega))⟩
  · rw [e]; exact hblk k3
  · rw [e]; exact k4.below hb

theorem se_add {ks : KL} {seq : Int} {most : Nat} {W6 : World} {cs cm bl : Nat} {B : Nat → Prop} {pre : List KV} {x : KV} {W' w4 : World} (h : SeI ks seq most W6 cs cm bl pre W') (hb : Below W'.heap.size W' w4) (h1 : cs < bl) (h2 : cm < bl) (hl : bl < W6.heap.size) (hB : ∀ q, B q → q < W6.heap.size → q ≠ bl) (hbig : W6.heap.size + 3 ≤ W'.heap.size) (hn : (foundK ks seq pre).length ≤ 1000000) {y : Wr} (hx : verK ks seq x = some y) :
    ∃ v, w4.cell? ⟨bl, 0, none⟩ = some v ∧ ∃ a2 c2 W2, (Builtin.append_ #[22, 22] 22 #[v, .slice (some ⟨w4.heap.size, 0, none⟩) 1 1]).run Try.prog (w4.alloc (.cells #[.string y.key, .string y.val, .bool y.gone] 48)) = .ok (.slice a2 ((foundK ks seq pre).length + 1) c2) W2 ∧ (∃ u, W2.cell? ⟨bl, 0, none⟩ = some u) ∧ W2.frozen? ⟨bl, 0, none⟩ = false ∧
      (W2.setCell ⟨bl, 0, none⟩ (.slice a2 ((foundK ks seq pre).length + 1) c2)).cell? ⟨bl, 0, none⟩ = some (.slice a2 ((foundK ks seq pre).length + 1) c2) ∧ (W2.setCell ⟨bl, 0, none⟩ (.slice a2 ((foundK ks seq pre).length + 1) c2)).cell? ⟨cm, 0, none⟩ = some (.int .i64 (most : Int)) ∧
      Hid ((foundK ks seq (pre ++ [x])).length = (foundK ks seq pre).length + 1 ∧ SeK W6 B W' (W2.setCell ⟨bl, 0, none⟩ (.slice a2 ((foundK ks seq pre).length + 1) c2)) ∧ SeI ks seq most W6 cs cm bl (pre ++ [x]) (W2.setCell ⟨bl, 0, none⟩ (.slice a2 ((foundK ks seq pre).length + 1) c2))) := by
  obtain ⟨k1, k2, ⟨a, c, k3, k4⟩, k5⟩ := h
  have hbA : Below w4.heap.size w4 (w4.alloc (.cells #[.string y.key, .string y.val, .bool y.gone] 48)) := (Below.refl _ _).alloc (Nat.le_refl _) _
  have hbb : Below W'.heap.size W' (w4.alloc (.cells #[.string y.key, .string y.val, .bool y.gone] 48)) := hb.trans (hbA.mono hb.size)
  have e : foundK ks seq (pre ++ [x]) = foundK ks seq pre ++ [y] := by rw [found_snoc, hx]
  obtain ⟨a2, c2, W2, hrun, hrow2, hup⟩ := app_wr (B := W6.heap.size + 3) (w4.alloc (.cells #[.string y.key, .string y.val, .bool y.gone] 48)) _ (foundK ks seq pre) (k4.below hbb) y w4.heap.size (heap_alloc_new w4 _) hn (Nat.le_trans hbig hbb.size) 22
  have hrb : ∀ q, (Value.slice a (foundK ks seq pre).length c).ownBlock = some q → W6.heap.size + 3 ≤ q := fun q hq => (k4.lt q hq).1
  have hsz2 := hup.1.size
  have hszb := hbb.size
  -- an old block that is no row's
  have hold : ∀ q, q < W'.heap.size → (Value.slice a (foundK ks seq pre).length c).ownBlock ≠ some q → W2.heap[q]? = W'.heap[q]? := fun q hq hne => (hup.1.block q (by omega) fun e => hne e.symm).trans (hbb.block q hq)
  have hset : ∀ q, q ≠ bl → (W2.setCell ⟨bl, 0, none⟩ (.slice a2 ((foundK ks seq pre).length + 1) c2)).heap[q]? = W2.heap[q]? := fun q hq => Below.heap_setCell W2 ⟨bl, 0, none⟩ _ q hq
  have hlow : ∀ q, q < W6.heap.size + 3 → (Value.slice a (foundK ks seq pre).length c).ownBlock ≠ some q := fun q hq he => by have := hrb q he; omega
  have b3 : Boxed W2 bl 22 (.slice a (foundK ks seq pre).length c) := (hold bl k3.lt (hlow bl (by omega))).trans k3
  have b3' := b3.set (.slice a2 ((foundK ks seq pre).length + 1) c2)
  have b1' : Boxed (W2.setCell ⟨bl, 0, none⟩ (.slice a2 ((foundK ks seq pre).length + 1) c2)) cs 3 (.int .i64 seq) := (hset cs (by omega)).trans ((hold cs k1.lt (hlow cs (by omega))).trans k1)
  have b2' : Boxed (W2.setCell ⟨bl, 0, none⟩ (.slice a2 ((foundK ks seq pre).length + 1) c2)) cm 3 (.int .i64 (most : Int)) := (hset cm (by omega)).trans ((hold cm k2.lt (hlow cm (by omega))).trans k2)
  have hszs : (W2.setCell ⟨bl, 0, none⟩ (.slice a2 ((foundK ks seq pre).length + 1) c2)).heap.size = W2.heap.size := by simp
  refine ⟨_, (hb.cell (p := ⟨bl, 0, none⟩) k3.lt).trans k3.cell, a2, c2, W2, hrun, ⟨_, b3.cell⟩, b3.frozen, b3'.cell, b2'.cell, Lib.hid ⟨by rw [e, List.length_append]; rfl, ⟨⟨⟨by rw [hszs]; omega, fun k o hk1 hk ho => ?_⟩, fun q q1 q2 => ?_⟩, ⟨by rw [hszs]; omega, fun q q1 q2 => ?_⟩⟩, b1', b2', ⟨a2, c2, ?_, ?_⟩, ?_⟩⟩
  · have hkl := (Array.getElem?_eq_some_iff.1 hk).1
    have hkb : k ≠ bl := by omega
    have hkr : (Value.slice a (foundK ks seq pre).length c).ownBlock ≠ some k := fun he => by
      obtain ⟨arr, hbx⟩ := rowk_box k4 he
      rw [show W'.heap[k]? = some (.cells arr 48 (0, 0)) from hbx] at hk
      injection hk with hk
      subst hk
      cases ho
    exact (hset k hkb).trans ((hold k hkl hkr).trans hk)
  · exact (hset q (by omega)).trans (hold q (by omega) (hlow q (by omega)))
  · exact (hset q (hB q q1 q2)).trans (hold q (by omega) (hlow q (by omega)))
  · rw [e, List.length_append, List.length_singleton]
    exact b3'
  · rw [e, List.length_append, List.length_singleton]
    refine hrow2.keep fun q hq => ⟨hset q fun he => ?_, (hrow2.lt q hq).1⟩
    have := (hrow2.lt q hq).1
    omega
  · have h9 : Below bl W6 W2 := (k5.trans (hbb.mono (by omega))).grown hup.1 (by omega) fun q hq => by have := hrb q hq; omega
    exact h9.setCell (p := ⟨bl, 0, none⟩) (Nat.le_refl _) _

end Go.Proofs.Ytcebnoapgceodaa.sT
