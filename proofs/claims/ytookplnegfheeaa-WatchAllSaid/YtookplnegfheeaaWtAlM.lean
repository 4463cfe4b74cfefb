/-
  WatchAll: a store, the list of its commits, and what was told of them, beside one another.
-/
import Derived.Test.YtookplnegfheeaaWtQ
namespace Go.Proofs.Ytookplnegfheeaa.watchAll
open Go.RowKit Go.Proofs.Ytookplnegfheeaa.tC Go.Proofs.Ytookplnegfheeaa.sT Go.Proofs.Ytookplnegfheeaa.wT Go.Proofs.Ytookplnegfheeaa.storeFrees

set_option linter.unusedVariables false
set_option linter.unusedSimpArgs false

theorem cms_app2 {B : Nat → Prop} {W : World} {l2 : List Value} {c2 : List CmM} (h2 : CmsAt B W l2 c2) : ∀ {l1 : List Value} {c1 : List CmM}, CmsAt B W l1 c1 → CmsAt B W (l1 ++ l2) (c1 ++ c2) ∧ cmrow (l1 ++ l2) (c1 ++ c2) = cmrow l1 c1 ++ cmrow l2 c2
  | [], [], _ => ⟨h2, rfl⟩
  | _ :: _, [], h => h.elim
  | [], _ :: _, h => h.elim
  | v :: r, c :: q, ⟨h1, h3⟩ => by
    obtain ⟨k1, k2⟩ := cms_app2 h2 h3
    refine ⟨⟨h1, k1⟩, ?_⟩
    show cmrow (v :: (r ++ l2)) (c :: (q ++ c2)) = _
    rw [cmrow, k2, cmrow, List.append_assoc]
theorem cms_k {K K' : Nat → Prop} {W W' : World} {l : List Value} {cs : List CmM} (h : CmsAt K W l cs) (hk : ∀ q, K q → q < W.heap.size → (∃ arr, Box W q 81 arr) → W'.heap[q]? = W.heap[q]? ∧ K' q) : CmsAt K' W' l cs := by
  have lt : ∀ {l : List Value} {cs : List CmM}, CmsAt K W l cs → CmsAt (fun q => K q ∧ q < W.heap.size) W l cs := fun {l cs} => by
    induction l generalizing cs with
    | nil => cases cs with
      | nil => exact fun _ => trivial
      | cons _ _ => exact fun h => h.elim
    | cons v r ih => cases cs with
      | nil => exact fun h => h.elim
      | cons c q => exact fun ⟨h1, h2⟩ => ⟨⟨h1.1, fun b hb => ⟨h1.2 b hb, (h1.1.lt b hb).2⟩⟩, ih h2⟩
  exact (lt h).keepB fun q hq hb => hk q hq.1 hq.2 hb

theorem cmrow_one {K : Nat → Prop} {W : World} : ∀ {l : List Value} {cs : List CmM}, CmsAt K W l cs → ∀ u ∈ cmrow l cs, u.oneCell' = true
  | [], [], _, u, hu => by simp [cmrow] at hu
  | [], _ :: _, h, _, _ => h.elim
  | _ :: _, [], h, _, _ => h.elim
  | v :: r, c :: q, ⟨h1, h2⟩, u, hu => by
    obtain ⟨va, vc, rfl, _⟩ := h1.1.form
    rcases List.mem_append.1 hu with hu | hu
    · simp at hu; rcases hu with rfl | rfl | rfl <;> rfl
    · exact cmrow_one h2 u hu

/-- the blocks of K, and new ones -/
def KN (K : Nat → Prop) (W W' : World) : Nat → Prop := fun q => K q ∨ (W.heap.size ≤ q ∧ q < W'.heap.size)

set_option maxRecDepth 100000 in
/-- nothing appended -/
theorem app_zero (W : World) (a : Option Addr) (n c : Nat) (sa : Option Addr) (sc : Nat) (ty : TypeId) (hnc : n ≤ c) : (Builtin.append_ #[27, 27] ty #[.slice a n c, .slice sa 0 sc]).run Try.prog W = .ok (.slice a n c) W := by
  obtain ⟨i, hi, hz, hi1, hi2⟩ := info_parts infoCm
  have hfc := fun x => run_firstCells_some (P := Try.prog) W i.size 0 x 0 sc [] (by simp) (fun j u hj => by simp at hj)
  have hld : ∀ x : Addr, (loadCells x 0).run Try.prog W = .ok #[] W := fun x => by have := hfc x; simpa [Builtin.firstCells] using this
  cases a <;> cases sa <;> simp [Builtin.append_, run_underlying Try.underlying27, sizeOf, typeInfo, hi, Builtin.lenOf, hld, Builtin.firstCells, hnc, storeCells]

set_option maxRecDepth 100000 in
/-- commits appended to a list whose blocks are told -/
theorem cmk_app {K : Nat → Prop} {W : World} {a : Option Addr} {n c : Nat} {cs : List CmM} (h : CmK K W (.slice a n c) cs) (hl : cs.length ≤ 900000) {l2 : List Value} {c2 : List CmM} (h2 : CmsAt K W l2 c2) (hl2 : c2.length ≤ 900) {sa : Option Addr} {m sc : Nat} (hm : m = c2.length) (hs : c2 = [] ∨ ∃ g, sa = some ⟨g, 0, none⟩ ∧ ∀ q u, (cmrow l2 c2)[q]? = some u → W.cell? ⟨g, q, none⟩ = some u) :
    ∃ a2 k2 W2, (∀ ty, (Builtin.append_ #[27, 27] ty #[.slice a n c, .slice sa m sc]).run Try.prog W = .ok (.slice a2 (n + m) k2) W2) ∧ CmK (KN K W W2) W2 (.slice a2 (n + m) k2) (cs ++ c2) ∧ W.grownBy W2 (Value.slice a n c).ownBlock ∧ ((Value.slice a2 (n + m) k2).ownBlock = (Value.slice a n c).ownBlock ∨ ∀ q, (Value.slice a2 (n + m) k2).ownBlock = some q → W.heap.size ≤ q) := by
  have hn := h.is.1
  subst hn hm
  obtain ⟨wvs, h1, h3, h4⟩ := h
  obtain ⟨i, hi, hz, hi1, hi2⟩ := info_parts infoCm
  by_cases h0 : c2 = []
  · subst h0
    cases l2 with
    | cons _ _ => exact h2.elim
    | nil =>
      refine ⟨a, c, W, fun ty => ?_, ⟨wvs, by simpa using h1, by simpa using cms_k h3 (K' := KN K W W) fun q hq _ _ => ⟨rfl, .inl hq⟩, fun q hq => .inl (h4 q hq)⟩, World.grownBy.refl W _, .inl rfl⟩
      have hrun : ∀ ty, (Builtin.append_ #[27, 27] ty #[.slice a cs.length c, .slice sa 0 sc]).run Try.prog W = .ok (.slice a cs.length c) W := fun ty => by
        obtain ⟨a', c', e', hnc, _⟩ := h1.form
        injection e' with q1 q2 q3
        subst q3
        exact app_zero W a _ _ sa sc ty hnc
      exact hrun ty
  · obtain ⟨g, rfl, hcell⟩ := hs.resolve_left h0
    have hl3 : l2.length = c2.length := h2.len
    have hone := cmrow_one h2
    obtain ⟨v', W2, hr, ho, hu⟩ := run_app (P := Try.prog) W 0 27 0 43 i _ 3 40 Try.underlying27 hi hz hi1 hi2 rfl (by decide) (.slice a cs.length c) cs.length (cmrow wvs cs) h1.1 ⟨g, 0, none⟩ c2.length sc (cmrow l2 c2) (cmrow_len l2 c2 hl3) (fun j u hj => by rw [addr_at]; exact hcell j u hj) hone (by unfold maxLen; omega) (by omega) (Nat.zero_le _)
    have hm : RowK 43 3 0 W2 v' (cs.length + c2.length) (cmrow wvs cs ++ cmrow l2 c2) := by
      refine ⟨ho, fun u hu => ?_⟩
      rcases List.mem_append.1 hu with hu | hu
      · exact h1.2 u hu
      · exact hone u hu
    obtain ⟨a2, k2, rfl, _⟩ := hm.form
    have hwf : ∀ q, q < W.heap.size → (∃ arr, Box W q 81 arr) → W2.heap[q]? = W.heap[q]? := fun q hq ⟨arr, hb⟩ => hu.1.block q hq fun e => by
      obtain ⟨arr2, h9⟩ := rowk_box h1 e.symm
      exact box_ne hb h9 (by decide) rfl
    have g1 : CmsAt (KN K W W2) W2 wvs cs := cms_k h3 fun q hq hlt hb => ⟨hwf q hlt hb, .inl hq⟩
    have g2 : CmsAt (KN K W W2) W2 l2 c2 := cms_k h2 fun q hq hlt hb => ⟨hwf q hlt hb, .inl hq⟩
    obtain ⟨g3, g4⟩ := cms_app2 g2 g1
    refine ⟨a2, k2, W2, fun ty => ?_, ⟨wvs ++ l2, by rw [g4, List.length_append]; exact hm, g3, fun q hq => ?_⟩, hu.1, hu.2⟩
    · obtain ⟨v3, W3, hr3, _⟩ := run_app (P := Try.prog) W 0 27 ty 43 i _ 3 40 Try.underlying27 hi hz hi1 hi2 rfl (by decide) (.slice a cs.length c) cs.length (cmrow wvs cs) h1.1 ⟨g, 0, none⟩ c2.length sc (cmrow l2 c2) (cmrow_len l2 c2 hl3) (fun j u hj => by rw [addr_at]; exact hcell j u hj) hone (by unfold maxLen; omega) (by omega) (Nat.zero_le _)
      exact hr
    · rcases hu.2 with e | e
      · exact .inl (h4 q (by rw [← e]; exact hq))
      · exact .inr ⟨e q hq, (hm.lt q hq).2⟩

/-- a list beside another one's append -/
theorem cmk_far {K : Nat → Prop} {W W2 : World} {v u : Value} {n : Nat} {cs ds : List CmM} {rw_ : List Value} (h : CmK K W v cs) (hu : RowK 43 3 0 W u n rw_) (hg : W.grownBy W2 u.ownBlock) (hne : ∀ q, v.ownBlock = some q → u.ownBlock ≠ some q) : CmK (KN K W W2) W2 v cs := by
  obtain ⟨wvs, h1, h3, h4⟩ := h
  refine ⟨wvs, h1.keep fun q hq => ⟨hg.block q (h1.lt q hq).2 fun e => hne q hq e.symm, Nat.zero_le _⟩, cms_k h3 fun q hq hlt ⟨arr, hb⟩ => ⟨hg.block q hlt fun e => ?_, .inl hq⟩, fun q hq => .inl (h4 q hq)⟩
  obtain ⟨arr2, h9⟩ := rowk_box hu e.symm
  exact box_ne hb h9 (by decide) rfl
/-- a store beside an append to a row that is K's -/
theorem sep_far {n0 : Nat} {K : Nat → Prop} {W W2 : World} {s : Nat} {M : StM} {r : Option Nat} (h : Sep n0 K W s M) (hg : W.grownBy W2 r) (hr : ∀ q, r = some q → K q) : Sep n0 (KN K W W2) W2 s M := by
  obtain ⟨⟨P, ⟨cv, wvs, ls, BT, BC, BM, h1⟩, h2⟩, h3, h4⟩ := h
  have hz := hg.size
  refine ⟨⟨fun q => P q ∧ q < W.heap.size, ⟨cv, wvs, ls, BT, BC, BM, h1.keep hz fun q hq hlt _ => ⟨hg.block q hlt fun e => (h2 q hq).2.2 (hr q e.symm), hq, hlt⟩⟩, fun q hq => ?_⟩, ?_, by omega⟩
  · obtain ⟨k1, k2, k3⟩ := h2 q hq.1
    exact ⟨k1, by omega, fun h => h.elim k3 fun h => by omega⟩
  · rintro q (hq | hq)
    · have := h3 q hq; omega
    · exact hq.2

/-- the store, the list of its commits, what was told -/
structure AlS (w wr : World) (s : Nat) (M : StM) (lv : Value) (L : List CmM) (tv : Value) (T : List CmM) : Prop where
  low : Below w.heap.size w wr
  ex : ∃ K, Sep w.heap.size K wr s M ∧ CmK K wr lv L ∧ CmK K wr tv T ∧ ∀ q, K q → w.heap.size ≤ q
  ne : ∀ q, lv.ownBlock = some q → tv.ownBlock ≠ some q
theorem AlS.below {w wr w' : World} {s : Nat} {M : StM} {lv tv : Value} {L T : List CmM} (h : AlS w wr s M lv L tv T) (hb : Below wr.heap.size wr w') : AlS w w' s M lv L tv T := by
  obtain ⟨h1, ⟨K, k1, k2, k3, k4⟩, h3⟩ := h
  exact ⟨h1.trans (hb.mono h1.size), ⟨K, (k1.below hb).less fun q hq => .inl hq, k2.below hb, k3.below hb, k4⟩, h3⟩
theorem AlS.store {w wr : World} {s : Nat} {M : StM} {lv tv : Value} {L T : List CmM} (h : AlS w wr s M lv L tv T) : ∃ P, StoreAt P wr s M := by
  obtain ⟨h1, ⟨K, k1, _⟩, h3⟩ := h
  exact k1.at_

/-- what Poll told is appended -/
theorem AlS.tell {w wr w5 : World} {s : Nat} {M : StM} {lv : Value} {ta : Option Addr} {tn tc : Nat} {L T : List CmM} (h : AlS w wr s M lv L (.slice ta tn tc) T) (hT : T.length ≤ 900) (hb : Below wr.heap.size wr w5) {oa : Option Addr} {n1 oc : Nat} {out : List CmM} (ho : CmsOwn wr.heap.size w5 (.slice oa n1 oc) out) (hn1 : out.length = n1) (hl : out.length ≤ 900) (w6 : World) (hb6 : Below w5.heap.size w5 w6) :
    ∃ a2 k2 W2, (∀ ty, (Builtin.append_ #[27, 27] ty #[.slice ta tn tc, .slice oa n1 oc]).run Try.prog w6 = .ok (.slice a2 (tn + n1) k2) W2) ∧ Hid (AlS w W2 s M lv L (.slice a2 (tn + n1) k2) (T ++ out)) ∧ Hid (w6.grownBy W2 (Value.slice ta tn tc).ownBlock) ∧ Hid (∀ q, (Value.slice ta tn tc).ownBlock = some q → q < wr.heap.size) := by
  obtain ⟨h1, ⟨K, k1, k2, k3, k4⟩, h3⟩ := h
  have hz := hb.size
  have hz6 := hb6.size
  have hw := h1.size
  have hb16 := hb.trans (hb6.mono hz)
  have hsep := k1.below hb16
  have hlist : CmK (fun q => K q ∨ (wr.heap.size ≤ q ∧ q < w6.heap.size)) w6 lv L := (k2.below hb16).same fun q hq _ => ⟨rfl, .inl hq⟩
  have htold : CmK (fun q => K q ∨ (wr.heap.size ≤ q ∧ q < w6.heap.size)) w6 (.slice ta tn tc) T := (k3.below hb16).same fun q hq _ => ⟨rfl, .inl hq⟩
  have hout : CmK (fun q => K q ∨ (wr.heap.size ≤ q ∧ q < w6.heap.size)) w6 (.slice oa n1 oc) out := by
    rw [← hn1] at ho ⊢
    exact ((CmK.of ho).below hb6).same fun q hq _ => ⟨rfl, .inr ⟨hq.1, by have := hq.2; omega⟩⟩
  obtain ⟨ovs, o1, o2, o3⟩ := hout
  have hcells : out = [] ∨ ∃ g, oa = some ⟨g, 0, none⟩ ∧ ∀ q u, (cmrow ovs out)[q]? = some u → w6.cell? ⟨g, q, none⟩ = some u := by
    by_cases h0 : out = []
    · exact .inl h0
    · have hpos := List.length_pos_iff.2 h0
      rw [hn1] at o1 hpos
      obtain ⟨g, e, _, _, hc⟩ := o1.at_ hpos
      exact .inr ⟨g, e, hc⟩
  obtain ⟨a2, c2, W2, hrun, hK, hg, hup⟩ := cmk_app (sc := oc) htold (by omega) o2 hl hn1.symm hcells
  have htlt : ∀ q, (Value.slice ta tn tc).ownBlock = some q → K q ∧ q < wr.heap.size := fun q hq => by
    obtain ⟨wvs, r1, _, r3⟩ := k3
    exact ⟨r3 q hq, (r1.lt q hq).2⟩
  refine ⟨a2, c2, W2, hrun, Lib.hid ⟨?_, ⟨KN (fun q => K q ∨ (wr.heap.size ≤ q ∧ q < w6.heap.size)) w6 W2, ?_, ?_, hK, ?_⟩, ?_⟩, Lib.hid hg, Lib.hid fun q hq => (htlt q hq).2⟩
  · exact (h1.trans (hb16.mono hw)).grown hg (by omega) fun q hq => k4 q (htlt q hq).1
  · exact sep_far hsep hg fun q hq => .inl (htlt q hq).1
  · obtain ⟨tvs, r1, _⟩ := htold
    exact cmk_far (ds := []) hlist r1 hg h3
  · rintro q ((hq | hq) | hq)
    · exact k4 q hq
    · omega
    · omega
  · intro q hq e
    rcases hup with hup | hup
    · exact h3 q hq (by rw [← hup]; exact e)
    · have := hup q e
      obtain ⟨lvs, r1, _⟩ := hlist
      have := (r1.lt q hq).2
      omega

/-- a commit more: made of writes in a row of the call's own -/
theorem AlS.commit {w wr : World} {s : Nat} {M : StM} {lv tv : Value} {L T : List CmM} (h : AlS w wr s M lv L tv T) {N : Nat} (hg : SG M N) {sq at_ : Int} {ws : List Wr} (hN : N + ws.length < 40000) (hf : M.fits sq at_ ws = true) {w5 : World} (hb : Below wr.heap.size wr w5) {xa : Option Addr} {xc : Nat} (hrow : RowK 81 3 wr.heap.size w5 (.slice xa ws.length xc) ws.length (ws.flatMap wrcells)) (w6 : World) (hb6 : Below w5.heap.size w5 w6) :
    Calls Try.prog 29 #[.pointer (some ⟨s, 0, none⟩), .agg #[.int .i64 sq, .int .i64 at_, .slice xa ws.length xc]] w6 fun e w7 => e = .returned (.int .i64 0) ∧ Hid (∃ K, (AlS w w7 s (M.commit sq at_ ws) lv L tv T ∧ Sep w.heap.size K w7 s (M.commit sq at_ ws) ∧ CmK K w7 lv L ∧ CmK K w7 tv T ∧ (∀ q, K q → w.heap.size ≤ q)) ∧ WsAt K w7 (.slice xa ws.length xc) ws ∧ ∀ q, wr.heap.size ≤ q → q < w6.heap.size → w7.heap[q]? = w6.heap[q]?) := by
  obtain ⟨h1, ⟨K, k1, k2, k3, k4⟩, h3⟩ := h
  have hz := hb.size
  have hz6 := hb6.size
  have hw := h1.size
  have hb16 := hb.trans (hb6.mono hz)
  have hsep := k1.below hb16
  have hlist : CmK (fun q => K q ∨ (wr.heap.size ≤ q ∧ q < w6.heap.size)) w6 lv L := (k2.below hb16).same fun q hq _ => ⟨rfl, .inl hq⟩
  have htold : CmK (fun q => K q ∨ (wr.heap.size ≤ q ∧ q < w6.heap.size)) w6 tv T := (k3.below hb16).same fun q hq _ => ⟨rfl, .inl hq⟩
  have hrow6 := hrow.below hb6
  have hK4 : ∀ q, (K q ∨ (wr.heap.size ≤ q ∧ q < w6.heap.size)) → w.heap.size ≤ q := fun q hq => by
    rcases hq with hq | hq
    · exact k4 q hq
    · omega
  refine (sep_commit (cap := xc) hsep hg sq at_ (wrs_at_row hrow6) rfl hN (.inr fun b off e => .inr (.inr ?_))).mono ?_
  · subst e
    obtain ⟨_, _, e6, _⟩ := hrow6.form
    have ho : (Value.slice (some ⟨b, off, none⟩) ws.length xc).ownBlock = some b ∨ off ≠ 0 := by
      by_cases h0 : off = 0
      · subst h0; exact .inl rfl
      · exact .inr h0
    rcases hrow6.1.2 with ⟨e, _⟩ | ⟨g2, cap, cur, e, q1, q2, _⟩
    · injection e with e _ _; cases e
    · injection e with e _ _
      injection e with e
      injection e with e e7 _
      subst e
      exact ⟨q1, (Array.getElem?_eq_some_iff.1 q2).1⟩
  · rintro e w7 ⟨hk, ⟨c1, _⟩ | ⟨_, c2, c3⟩⟩
    · rw [hf] at c1; cases c1
    · have hkl := hlist.kept hk
      have hkt := htold.kept hk
      refine ⟨c2, Lib.hid ⟨_, ⟨⟨(h1.trans (hb16.mono hw)).trans hk.below, ⟨_, c3, hkl, hkt, hK4⟩, h3⟩, c3, hkl, hkt, hK4⟩, ⟨hrow6.keep fun q hq => ⟨hk.same q (.inr ⟨(hrow6.lt q hq).1, (hrow6.lt q hq).2⟩), Nat.zero_le _⟩, fun q hq => .inr ⟨(hrow6.lt q hq).1, (hrow6.lt q hq).2⟩⟩, fun q h1 h2 => hk.same q (.inr ⟨h1, h2⟩)⟩⟩

/-- and the list has it too -/
theorem AlS.list {w w7 : World} {s : Nat} {M : StM} {la : Option Addr} {ln lc : Nat} {tv : Value} {L T : List CmM} {K : Nat → Prop} (hne : ∀ q, (Value.slice la ln lc).ownBlock = some q → tv.ownBlock ≠ some q) (hlow : Below w.heap.size w w7) (hs : Sep w.heap.size K w7 s M) (hl : CmK K w7 (.slice la ln lc) L) (ht : CmK K w7 tv T) (hK : ∀ q, K q → w.heap.size ≤ q) (hL : L.length ≤ 900) {sq at_ : Int} {ws : List Wr} {xa : Option Addr} {xc : Nat} (hw : WsAt K w7 (.slice xa ws.length xc) ws) :
    ∃ a2 k2 W2, (∀ ty, (Builtin.append_ #[27, 27] ty #[.slice la ln lc, .slice (some ⟨w7.heap.size, 0, none⟩) 1 1]).run Try.prog (w7.alloc (.cells #[.int .i64 sq, .int .i64 at_, .slice xa ws.length xc] 43)) = .ok (.slice a2 (ln + 1) k2) W2) ∧ Hid (AlS w W2 s M (.slice a2 (ln + 1) k2) (L ++ [⟨sq, at_, ws⟩]) tv T) := by
  have hbA : Below w7.heap.size w7 (w7.alloc (.cells #[.int .i64 sq, .int .i64 at_, .slice xa ws.length xc] 43)) := (Below.refl _ _).alloc (Nat.le_refl _) _
  have hw0 := hlow.size
  have hzA : (w7.alloc (.cells #[.int .i64 sq, .int .i64 at_, .slice xa ws.length xc] 43)).heap.size = w7.heap.size + 1 := by simp
  obtain ⟨w8, hw8⟩ : ∃ w8, w8 = w7.alloc (.cells #[.int .i64 sq, .int .i64 at_, .slice xa ws.length xc] 43) := ⟨_, rfl⟩
  have hbx := Box.new w7 43 #[.int .i64 sq, .int .i64 at_, .slice xa ws.length xc]
  rw [← hw8] at hbA hzA hbx ⊢
  have hlist := hl.below hbA
  have htold := ht.below hbA
  have h2 : CmsAt K w8 [.slice xa ws.length xc] [(⟨sq, at_, ws⟩ : CmM)] := ⟨⟨hw.1.below hbA, hw.2⟩, trivial⟩
  obtain ⟨a2, c2, W2, hrun, hKk, hg, hup⟩ := cmk_app (sa := some ⟨w7.heap.size, 0, none⟩) (m := 1) (sc := 1) hlist (by omega) h2 (by simp) rfl (.inr ⟨w7.heap.size, rfl, fun q u hq => by
    rw [hbx.cell, ← hq]
    simp [cmrow]⟩)
  have hllt : ∀ q, (Value.slice la ln lc).ownBlock = some q → K q ∧ q < w7.heap.size := fun q hq => by
    obtain ⟨wvs, r1, _, r3⟩ := hl
    exact ⟨r3 q hq, (r1.lt q hq).2⟩
  refine ⟨a2, c2, W2, hrun, Lib.hid ⟨?_, ⟨KN K w8 W2, ?_, hKk, ?_, ?_⟩, ?_⟩⟩
  · exact (hlow.trans (hbA.mono hw0)).grown hg (by omega) fun q hq => hK q (hllt q hq).1
  · exact sep_far ((hs.below hbA).less fun q hq => .inl hq) hg fun q hq => (hllt q hq).1
  · obtain ⟨lvs, r1, _⟩ := hlist
    exact cmk_far (ds := []) htold r1 hg fun q hq e => hne q e hq
  · rintro q (hq | hq)
    · exact hK q hq
    · omega
  · intro q hq e
    rcases hup with hup | hup
    · exact hne q (by rw [← hup]; exact hq) e
    · have := hup q hq
      obtain ⟨tvs, r1, _⟩ := htold
      have := (r1.lt q e).2
      omega

end Go.Proofs.Ytookplnegfheeaa.watchAll
