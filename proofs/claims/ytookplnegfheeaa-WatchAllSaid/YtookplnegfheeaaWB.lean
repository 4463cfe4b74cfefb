/-
  mailbaglaw17: lists of commits whose blocks are told; a store beside the list of its commits.
  watch, plainly: what Poll answers, of a list whose numbers rise by one.
  mailbaglaw17.made: a store behind commits of which some are gone, and their list.
  mailbaglaw11.Same, at a seat of the store.
  mailbaglaw17.Only: commits that wrote keys that begin so, with those writes alone.
  mailbaglaw17.Only: its walk.
-/
import Derived.Test.YtookplnegfheeaaWA
import Derived.Test.YtookplnegfheeaaStHd
import Derived.Test.YtookplnegfheeaaStWr
import Derived.Below
import Derived.Laws.Cover3
import Derived.StillTailTactics
section
namespace Go.Proofs.Ytookplnegfheeaa.wT
open Go.RowKit Go.Proofs.Ytookplnegfheeaa.tC Go.Proofs.Ytookplnegfheeaa.sT Go.Proofs.Ytookplnegfheeaa.storeFrees

set_option linter.unusedVariables false
set_option linter.unusedSimpArgs false

/-- commits in memory whose blocks are all among K's -/
def CmK (K : Nat → Prop) (W : World) (v : Value) (cs : List CmM) : Prop := ∃ wvs, RowK 43 3 0 W v cs.length (cmrow wvs cs) ∧ CmsAt K W wvs cs ∧ ∀ q, v.ownBlock = some q → K q
theorem CmK.same {K K' : Nat → Prop} {W W' : World} {v : Value} {cs : List CmM} (h : CmK K W v cs) (hk : ∀ q, K q → q < W.heap.size → W'.heap[q]? = W.heap[q]? ∧ K' q) : CmK K' W' v cs := by
  obtain ⟨wvs, h1, h2, h3⟩ := h
  have lt : ∀ {l : List Value} {cs : List CmM}, CmsAt K W l cs → CmsAt (fun q => K q ∧ q < W.heap.size) W l cs := fun {l cs} => by
    induction l generalizing cs with
    | nil => cases cs with
      | nil => exact fun _ => trivial
      | cons _ _ => exact fun h => h.elim
    | cons v r ih => cases cs with
      | nil => exact fun h => h.elim
      | cons c q => exact fun ⟨h1, h2⟩ => ⟨⟨h1.1, fun b hb => ⟨h1.2 b hb, (h1.1.lt b hb).2⟩⟩, ih h2⟩
  exact ⟨wvs, h1.keep fun q hq => ⟨(hk q (h3 q hq) (h1.lt q hq).2).1, Nat.zero_le _⟩, (lt h2).keep fun q hq => hk q hq.1 hq.2, fun q hq => (hk q (h3 q hq) (h1.lt q hq).2).2⟩
theorem CmK.below {K : Nat → Prop} {W W' : World} {v : Value} {cs : List CmM} (h : CmK K W v cs) (hb : Below W.heap.size W W') : CmK K W' v cs := h.same fun q hq hlt => ⟨hb.block q hlt, hq⟩
theorem CmK.kept {n0 : Nat} {K : Nat → Prop} {W W' : World} {v : Value} {cs : List CmM} (h : CmK K W v cs) (hb : Kept n0 K W W') : CmK K W' v cs := h.same fun q hq _ => ⟨hb.same q hq, hq⟩
theorem CmK.of {n0 : Nat} {W : World} {v : Value} {cs : List CmM} (h : CmsOwn n0 W v cs) : CmK (fun q => n0 ≤ q ∧ q < W.heap.size) W v cs := by
  obtain ⟨wvs, h1, h2⟩ := h
  have lt : ∀ {l : List Value} {cs : List CmM}, CmsAt (fun q => n0 ≤ q) W l cs → CmsAt (fun q => n0 ≤ q ∧ q < W.heap.size) W l cs := fun {l cs} => by
    induction l generalizing cs with
    | nil => cases cs with
      | nil => exact fun _ => trivial
      | cons _ _ => exact fun h => h.elim
    | cons v r ih => cases cs with
      | nil => exact fun h => h.elim
      | cons c q => exact fun ⟨h1, h2⟩ => ⟨⟨h1.1, fun b hb => ⟨h1.2 b hb, (h1.1.lt b hb).2⟩⟩, ih h2⟩
  exact ⟨wvs, h1.keep fun q hq => ⟨rfl, Nat.zero_le _⟩, lt h2, fun q hq => h1.lt q hq⟩
theorem CmK.is {K : Nat → Prop} {W : World} {a : Option Addr} {n c : Nat} {cs : List CmM} (h : CmK K W (.slice a n c) cs) : n = cs.length ∧ CIs W a cs := by
  obtain ⟨wvs, h1, h2, _⟩ := h
  obtain ⟨a', c', e, _⟩ := h1.form
  injection e with e1 e2 e3
  subst e1; subst e2; subst e3
  exact ⟨rfl, cms_is (RowO.of h1) h2⟩
theorem CmK.lies {K : Nat → Prop} {W : World} {a : Option Addr} {n c : Nat} {cs : List CmM} (h : CmK K W (.slice a n c) cs) : LiesAt a n c := by
  obtain ⟨wvs, h1, _⟩ := h
  obtain ⟨a', c', e, _⟩ := h1.form
  injection e with e1 e2 e3
  subst e1; subst e2; subst e3
  rcases h1.1.2 with ⟨e, _⟩ | ⟨g, cap, cur, e, _, _, h2, h3, _⟩
  · injection e with e0 e1 e2
    subst e0
    exact ⟨fun _ => e2, fun a h => (by cases h), (by omega), (by unfold maxLen; omega)⟩
  · injection e with e0 e1 e2
    subst e0; subst e2
    exact ⟨fun h => by (cases h), fun a h => by injection h with h; exact ⟨g, 0, h.symm⟩, h2, h3⟩

/-- a commit of the list: its cells, and that its writes lie in K's blocks -/
theorem CmK.at_ {K : Nat → Prop} {W : World} {v : Value} {cs : List CmM} (h : CmK K W v cs) {z : Nat} (hz : z < cs.length) :
    ∃ g c wa wc, v = .slice (some ⟨g, 0, none⟩) cs.length c ∧ K g ∧ g < W.heap.size ∧ W.cell? ⟨g, z * 3, none⟩ = some (.int .i64 (cs[z]).seq) ∧ W.cell? ⟨g, z * 3 + 1, none⟩ = some (.int .i64 (cs[z]).at_) ∧ W.cell? ⟨g, z * 3 + 2, none⟩ = some (.slice wa (cs[z]).ws.length wc) ∧ WrsIs W wa (cs[z]).ws ∧ ((cs[z]).ws = [] ∨ ∀ b off, wa = some ⟨b, off, none⟩ → K b) := by
  obtain ⟨wvs, h1, h2, h3⟩ := h
  obtain ⟨a, c, rfl, _⟩ := h1.form
  obtain ⟨g, rfl, _, hlt, hc⟩ := h1.at_ (by omega)
  obtain ⟨v, _, e2, e3, e4, e5⟩ := cms_get h2 z hz
  obtain ⟨wa, wc, rfl, h4⟩ := wrs_of_row e2
  refine ⟨g, c, wa, wc, rfl, h3 g rfl, hlt, hc _ _ e3, hc _ _ e4, hc _ _ e5, h4, .inr fun b off e => ?_⟩
  subst e
  obtain ⟨_, _, e6, _⟩ := e2.1.form
  by_cases h0 : (cs[z]).ws = []
  · rcases e2.1.1.2 with ⟨e, _⟩ | ⟨g2, cap, cur, e, _⟩
    · injection e with e _ _; cases e
    · injection e with e _ _
      injection e with e
      injection e with e e7 _
      subst e; subst e7
      exact e2.2 _ rfl
  · obtain ⟨g2, e7, _⟩ := e2.1.at_ (List.length_pos_iff.2 h0)
    injection e7 with e7
    injection e7 with e7 e8 _
    subst e7; subst e8
    exact e2.2 _ rfl

/-- a store beside the list of its commits, all of it behind what was there -/
def MdS (W wr : World) (s : Nat) (M : StM) (lv : Value) (cs : List CmM) : Prop := Below W.heap.size W wr ∧ ∃ K, Sep W.heap.size K wr s M ∧ CmK K wr lv cs ∧ ∀ q, K q → W.heap.size ≤ q
theorem MdS.below {W wr w2 : World} {s : Nat} {M : StM} {lv : Value} {cs : List CmM} (h : MdS W wr s M lv cs) (hb : Below wr.heap.size wr w2) : MdS W w2 s M lv cs := by
  obtain ⟨h1, K, h2, h3, h8⟩ := h
  exact ⟨h1.trans (hb.mono h1.size), K, (h2.below hb).less fun q hq => .inl hq, h3.below hb, h8⟩
theorem MdS.list {W wr : World} {s : Nat} {M : StM} {a : Option Addr} {n c : Nat} {cs : List CmM} (h : MdS W wr s M (.slice a n c) cs) : n = cs.length ∧ CIs wr a cs ∧ LiesAt a n c := by
  obtain ⟨h1, K, h2, h3, h8⟩ := h
  exact ⟨h3.is.1, h3.is.2, h3.lies⟩
theorem MdS.store {W wr : World} {s : Nat} {M : StM} {lv : Value} {cs : List CmM} (h : MdS W wr s M lv cs) : ∃ P, StoreAt P wr s M := by
  obtain ⟨h1, K, h2, h3, h8⟩ := h
  exact h2.at_

/-- the list is committed, one by one -/
theorem md_commit {W wr : World} {s : Nat} {M : StM} {lv : Value} {cs : List CmM} (h : MdS W wr s M lv cs) {N : Nat} (hg : SG M N) {z : Nat} (hz : z < cs.length) (hN : N + (cs[z]).ws.length < 40000) (hf : M.fits (cs[z]).seq (cs[z]).at_ (cs[z]).ws = true) :
    ∃ g c wa wc, lv = .slice (some ⟨g, 0, none⟩) cs.length c ∧ g < wr.heap.size ∧ wr.cell? ⟨g, z * 3, none⟩ = some (.int .i64 (cs[z]).seq) ∧ wr.cell? ⟨g, z * 3 + 1, none⟩ = some (.int .i64 (cs[z]).at_) ∧ wr.cell? ⟨g, z * 3 + 2, none⟩ = some (.slice wa (cs[z]).ws.length wc) ∧
      Hid (∀ w1, Below wr.heap.size wr w1 → Calls Try.prog 29 #[.pointer (some ⟨s, 0, none⟩), .agg #[.int .i64 (cs[z]).seq, .int .i64 (cs[z]).at_, .slice wa (cs[z]).ws.length wc]] w1 fun e W' => e = .returned (.int .i64 0) ∧ Hid (MdS W W' s (M.commit (cs[z]).seq (cs[z]).at_ (cs[z]).ws) lv cs)) := by
  obtain ⟨h1, K, h2, h3, h8⟩ := h
  obtain ⟨g, c, wa, wc, e, k1, k2, k3, k4, k5, k6, k7⟩ := h3.at_ hz
  refine ⟨g, c, wa, wc, e, k2, k3, k4, k5, Lib.hid fun w1 hb => ?_⟩
  refine (sep_commit (cap := wc) ((h2.below hb).less (K' := K) fun q hq => .inl hq) hg (cs[z]).seq (cs[z]).at_ (k6.below hb) rfl hN (k7.imp id fun k b off e => .inr (k b off e))).mono ?_
  rintro e2 W' ⟨hk, ⟨c1, _⟩ | ⟨_, c2, c3⟩⟩
  · rw [hf] at c1; cases c1
  · exact ⟨c2, Lib.hid ⟨(h1.trans (hb.mono h1.size)).trans hk.below, K, c3, (h3.below hb).kept hk, h8⟩⟩

theorem md_vacuum {W wr : World} {s : Nat} {M : StM} {lv : Value} {cs : List CmM} (h : MdS W wr s M lv cs) {N : Nat} (hg : SG M N) (hN : N < 40000) {k : Nat} (hk : k ≤ M.cms.length) (seq : Int) (hs : seq = ((M.low + k : Nat) : Int)) :
    Calls Try.prog 31 #[.pointer (some ⟨s, 0, none⟩), .int .i64 seq] wr fun e W' => e = .returned (.int .i64 0) ∧ Hid (MdS W W' s (M.vacuum k) lv cs) := by
  obtain ⟨h1, K, h2, h3, h8⟩ := h
  refine (sep_vacuum h2 hg hN seq).mono ?_
  rintro e W' ⟨hkp, ⟨c1, _⟩ | ⟨n, _, c2, c3, c4, c5⟩⟩
  · exfalso
    have : M.tells seq = true := by
      unfold StM.tells
      rw [Bool.and_eq_true, decide_eq_true_eq, decide_eq_true_eq]
      unfold StM.last
      omega
    rw [this] at c1; cases c1
  · obtain rfl : n = k := by omega
    exact ⟨c4, Lib.hid ⟨h1.trans hkp.below, K, c5, h3.kept hkp, h8⟩⟩

theorem md_new (W : World) : Calls Try.prog 53 #[.int .i64 0, .slice none 0 0] W fun e W' => ∃ s, e = .returned (.tuple #[.pointer (some ⟨s, 0, none⟩), .int .i64 0]) ∧ Hid (Sep W.heap.size (fun _ => False) W' s (madeM 0 [] []) ∧ Below W.heap.size W W') := by
  refine (sep_new (n0 := W.heap.size) (cap := 0) 0 (.inl rfl : WrsIs W none []) rfl (by simp)).mono ?_
  rintro e W' ⟨hb1, ⟨h1, _⟩ | ⟨_, s, lo, h2, _, h3, h4⟩⟩
  · rw [hF0] at h1; cases h1
  · obtain rfl : lo = 0 := by omega
    exact ⟨s, h3, Lib.hid ⟨h4, hb1⟩⟩

theorem md_list {W w1 : World} (hb : Below W.heap.size W w1) {s : Nat} {M : StM} (h : Sep W.heap.size (fun _ => False) w1 s M) {a : Option Addr} {len : Nat} (cap : Nat) {wss : List (List Wr)} (hw : WwsCame W a len wss) (hle : len ≤ 30) :
    Calls Try.prog 20 #[.int .i64 1, .slice a len cap] w1 fun e w2 => ∃ la lc, e = .returned (.slice la len lc) ∧ Hid (MdS W w2 s M (.slice la len lc) (listC 1 wss)) := by
  have hlen := hw.1
  refine (list_any (cap := cap) 1 ⟨hw.1, hw.2.1.below hb, hw.2.2⟩ (by omega) (by omega) (by omega)).mono ?_
  rintro e w2 ⟨la, lc, rfl, k1, k2⟩
  rw [hlen] at k1 ⊢
  refine ⟨la, lc, rfl, Lib.hid ⟨hb.trans (k2.mono hb.size), _, (h.below k2).less fun q hq => ?_, CmK.of (by simpa using k1), fun q hq => Nat.le_trans hb.size hq.1⟩⟩
  exact .inr hq

end Go.Proofs.Ytookplnegfheeaa.wT
end

section
namespace Go.Proofs.Ytookplnegfheeaa.wT
open Go.RowKit Go.Proofs.Ytookplnegfheeaa.tC Go.Proofs.Ytookplnegfheeaa.sT

set_option linter.unusedVariables false
set_option linter.unusedSimpArgs false

theorem told_app (p : ByteArray) (a b : List CmM) : told p (a ++ b) = told p a ++ told p b := by
  unfold told
  rw [List.map_append, List.filter_append]
theorem told_split (p : ByteArray) (cs : List CmM) (z : Nat) : told p cs = told p (cs.take z) ++ told p (cs.drop z) := by
  rw [← told_app, List.take_append_drop]

/-- numbers that rise by one -/
def SeqsL (L : List CmM) : Prop := ∀ i (h : i < L.length), (L[i]).seq = (i : Int) + 1
theorem seqs_list (wss : List (List Wr)) : SeqsL (listC 1 wss) := fun i h => by
  have hl := h
  rw [listC_len] at hl
  have := listC_get 1 wss i hl
  rw [List.getElem?_eq_getElem h] at this
  rw [Option.some.inj this]
  simp only
  omega

/-- what Poll's answer says of the whole list -/
def PollO (L : List CmM) (m : Nat) (p : ByteArray) (most : Int) (out : List CmM) (mk : Int) : Prop :=
  ∃ z, z ≤ L.length - m ∧ out = told p ((L.drop m).take z) ∧ mk = ((m + z : Nat) : Int) ∧ (out.length : Int) ≤ most ∧ ((out.length : Int) = most ∨ m + z = L.length)
theorem poll_plain {L : List CmM} (hs : SeqsL L) {m : Nat} (hm : m ≤ L.length) {p : ByteArray} {most : Int} (h1 : 1 ≤ most) {z : Nat} {mk : Int} (hz : z ≤ (L.drop m).length) (hlt : ∀ y, y < z → ((told p ((L.drop m).take y)).length : Int) < most) (hend : z = (L.drop m).length ∨ ((told p ((L.drop m).take z)).length : Int) = most)
    (hmk : mk = if h : 0 < z ∧ z ≤ (L.drop m).length then ((L.drop m)[z - 1]).seq else (m : Int)) : PollO L m p most (told p ((L.drop m).take z)) mk := by
  have hdl : (L.drop m).length = L.length - m := List.length_drop
  refine ⟨z, by omega, rfl, ?_, ?_, ?_⟩
  · rw [hmk]
    by_cases h0 : 0 < z
    · rw [dif_pos ⟨h0, hz⟩, List.getElem_drop, hs _ (by omega)]
      omega
    · rw [dif_neg (fun h => h0 h.1)]
      omega
  · cases z with
    | zero => simp [told]; omega
    | succ y =>
      have h2 := hlt y (by omega)
      rw [told_next (by omega), List.length_append]
      split <;> simp <;> omega
  · rcases hend with h | h
    · exact .inr (by omega)
    · exact .inl h
theorem PollO.take {L : List CmM} {m : Nat} {p : ByteArray} {most : Int} {out : List CmM} {mk : Int} (h : PollO L m p most out mk) : out = (told p (L.drop m)).take out.length := by
  obtain ⟨z, _, rfl, _⟩ := h
  have := told_split p (L.drop m) z
  rw [this, List.take_left]
theorem PollO.len {L : List CmM} {m : Nat} {p : ByteArray} {most : Int} {out : List CmM} {mk : Int} (h : PollO L m p most out mk) (hm : m ≤ L.length) : (out.length : Int) = min most ((told p (L.drop m)).length : Int) := by
  obtain ⟨z, h1, rfl, _, h3, h4⟩ := h
  have h5 := congrArg List.length (told_split p (L.drop m) z)
  rw [List.length_append] at h5
  rcases h4 with h4 | h4
  · omega
  · have : (L.drop m).drop z = [] := by rw [List.drop_drop, List.drop_eq_nil_iff]; omega
    rw [this] at h5
    have h6 : (told p []).length = 0 := rfl
    omega
theorem PollO.mark {L : List CmM} (hs : SeqsL L) {m : Nat} {p : ByteArray} {most : Int} {out : List CmM} {mk : Int} (h : PollO L m p most out mk) (hlt : ∀ y, y < (mk - m).toNat → ((told p ((L.drop m).take y)).length : Int) < most) (h1 : 1 ≤ most) (he : (out.length : Int) = most) : ∃ c, (told p (L.drop m))[out.length - 1]? = some c ∧ c.seq = mk := by
  obtain ⟨z, h2, rfl, h3, h4, h5⟩ := h
  have hdl : (L.drop m).length = L.length - m := List.length_drop
  cases z with
  | zero => exfalso; simp [told] at he; omega
  | succ y =>
    have h6 := hlt y (by omega)
    have h7 := told_next (p := p) (cs := L.drop m) (z := y) (by omega)
    have h8 : ((begF p ((L.drop m)[y]'(by omega)).ws).isEmpty) = false := by
      rw [Bool.eq_false_iff]
      intro hb
      rw [if_pos hb, List.append_nil] at h7
      rw [h7] at he
      omega
    rw [h8] at h7
    simp only [Bool.false_eq_true, if_false] at h7
    refine ⟨cutC p ((L.drop m)[y]'(by omega)), ?_, ?_⟩
    · rw [told_split p (L.drop m) (y + 1), h7, List.length_append, List.length_singleton, Nat.add_sub_cancel, List.append_assoc, List.getElem?_append_right (Nat.le_refl _), Nat.sub_self]
      rfl
    · show ((L.drop m)[y]'(by omega)).seq = mk
      rw [List.getElem_drop, hs _ (by omega), h3]
      omega

end Go.Proofs.Ytookplnegfheeaa.wT
end

section
namespace Go.Proofs.Ytookplnegfheeaa.wT
open Go.RowKit Go.Proofs.Ytookplnegfheeaa.tC Go.Proofs.Ytookplnegfheeaa.sT Go.Proofs.Ytookplnegfheeaa.storeFrees

set_option linter.unusedVariables false
set_option linter.unusedSimpArgs false

theorem takes17 (wss : List (List Wr)) (hl : wss.length ≤ 1000000) : Takes 0 [] (listC 1 wss) := by
  have := takes_list (first := 0) hF0 (by omega) wss hl
  rwa [show (((0 : Nat) : Int) + 1) = 1 from rfl] at this
theorem sg17 (wss : List (List Wr)) (hl : wss.length ≤ 1000000) (z : Nat) (hz : z ≤ wss.length) : SG (madeM 0 [] ((listC 1 wss).take z)) (z * 13) := by
  have := SG.made (takes17 wss hl) 12 (listC_12 1 wss) z (by rw [listC_len]; exact hz)
  rwa [List.length_nil, Nat.zero_add] at this

/-- a round: the next of the list is committed -/
theorem md_round {W wr : World} {s : Nat} {lv : Value} {wss : List (List Wr)} (hle : wss.length ≤ 60) {z : Nat} (h : MdS W wr s (madeM 0 [] ((listC 1 wss).take z)) lv (listC 1 wss)) (hz : z < wss.length) :
    ∃ g c wa wl wc sq at_, lv = .slice (some ⟨g, 0, none⟩) wss.length c ∧ g < wr.heap.size ∧ wr.cell? ⟨g, z * 3, none⟩ = some (.int .i64 sq) ∧ wr.cell? ⟨g, z * 3 + 1, none⟩ = some (.int .i64 at_) ∧ wr.cell? ⟨g, z * 3 + 2, none⟩ = some (.slice wa wl wc) ∧
      Hid (Calls Try.prog 29 #[.pointer (some ⟨s, 0, none⟩), .agg #[.int .i64 sq, .int .i64 at_, .slice wa wl wc]] (wr.alloc (.cells #[.int .i64 sq, .int .i64 at_, .slice wa wl wc] 43)) fun e W' => e = .returned (.int .i64 0) ∧ Hid (MdS W W' s (madeM 0 [] ((listC 1 wss).take (z + 1))) lv (listC 1 wss))) := by
  have hzl : z < (listC 1 wss).length := by rw [listC_len]; exact hz
  have h12 := listC_12 1 wss _ (List.getElem_mem hzl)
  obtain ⟨g, c, wa, wc, e, k1, k2, k3, k4, k5⟩ := md_commit h (sg17 wss (by omega) z (by omega)) hzl (by omega) ((takes17 wss (by omega)).2 z hzl)
  rw [listC_len] at e
  refine ⟨g, c, wa, _, wc, _, _, e, k1, k2, k3, k4, Lib.hid ?_⟩
  have := k5.out _ ((Below.refl _ wr).alloc (Nat.le_refl _) (.cells #[.int .i64 ((listC 1 wss)[z]).seq, .int .i64 ((listC 1 wss)[z]).at_, .slice wa ((listC 1 wss)[z]).ws.length wc] 43))
  rw [← madeM_snoc, ← List.take_succ_eq_append_getElem hzl] at this
  exact this

set_option maxHeartbeats 1000000 in
set_option maxRecDepth 100000 in
theorem made17_any {W : World} {a : Option Addr} {len : Nat} (cap : Nat) {wss : List (List Wr)} (h : WwsCame W a len wss) (hle : len ≤ 30) (w0 : World) (hb0 : Below W.heap.size W w0) (k : Nat) (hk : k ≤ len) :
    Calls Try.prog 36 #[.slice a len cap, .int .i64 (k : Int)] w0 fun e W' => ∃ s la lc, e = .returned (.tuple #[.pointer (some ⟨s, 0, none⟩), .slice la len lc]) ∧ Hid (MdS w0 W' s ((madeM 0 [] (listC 1 wss)).vacuum k) (.slice la len lc) (listC 1 wss)) := by
  have hlen := h.1
  have h0 : WwsCame w0 a len wss := ⟨h.1, h.2.1.below hb0, h.2.2⟩
  have HL : Hid (∀ w1 s, Sep w0.heap.size (fun _ => False) w1 s (madeM 0 [] []) ∧ Below w0.heap.size w0 w1 → Calls Try.prog 20 #[.int .i64 1, .slice a len cap] w1 fun e w2 => ∃ la lc, e = .returned (.slice la len lc) ∧ Hid (MdS w0 w2 s (madeM 0 [] []) (.slice la len lc) (listC 1 wss))) := Lib.hid fun w1 s h1 => md_list h1.2 h1.1 cap h0 hle
  have HR : Hid (∀ (wr : World) s lv (z : Nat), z < len → MdS w0 wr s (madeM 0 [] ((listC 1 wss).take z)) lv (listC 1 wss) → ∃ g c wa wl wc sq at_, lv = .slice (some ⟨g, 0, none⟩) len c ∧ g < wr.heap.size ∧ wr.cell? ⟨g, z * 3, none⟩ = some (.int .i64 sq) ∧ wr.cell? ⟨g, z * 3 + 1, none⟩ = some (.int .i64 at_) ∧ wr.cell? ⟨g, z * 3 + 2, none⟩ = some (.slice wa wl wc) ∧
      Hid (Calls Try.prog 29 #[.pointer (some ⟨s, 0, none⟩), .agg #[.int .i64 sq, .int .i64 at_, .slice wa wl wc]] (wr.alloc (.cells #[.int .i64 sq, .int .i64 at_, .slice wa wl wc] 43)) fun e W' => e = .returned (.int .i64 0) ∧ Hid (MdS w0 W' s (madeM 0 [] ((listC 1 wss).take (z + 1))) lv (listC 1 wss)))) := Lib.hid fun wr s lv z hz h1 => by
    subst hlen
    exact md_round (by omega) h1 hz
  have HV : Hid (∀ (wr : World) s lv, MdS w0 wr s (madeM 0 [] ((listC 1 wss).take len)) lv (listC 1 wss) → Calls Try.prog 31 #[.pointer (some ⟨s, 0, none⟩), .int .i64 (k : Int)] wr fun e W' => e = .returned (.int .i64 0) ∧ Hid (MdS w0 W' s ((madeM 0 [] (listC 1 wss)).vacuum k) lv (listC 1 wss))) := Lib.hid fun wr s lv h1 => by
    have hg := sg17 wss (by omega) len (by omega)
    have ht : (listC 1 wss).take len = listC 1 wss := by rw [← hlen, ← listC_len 1 wss, List.take_length]
    rw [ht] at h1 hg
    obtain ⟨q1, q2⟩ := madeM_low 0 [] (listC 1 wss)
    exact md_vacuum h1 hg (by omega) (by rw [q2, listC_len]; omega) (k : Int) (by rw [q1]; omega)
  obtain ⟨cs, hcs⟩ : ∃ cs, cs = listC 1 wss := ⟨_, rfl⟩
  rw [← hcs] at HL HR HV ⊢
  have H0 : Hid (cs.take 0 = []) := Lib.hid rfl
  clear h h0 hb0 hk hcs hlen
  go_enter Try.func36, Try.ntmps36
  go_wp2_with fail
  refine (md_new _).mono ?_
  rintro e w1 ⟨s, rfl, h1⟩
  have HL1 := Lib.hid (HL.out w1 s h1.out)
  clear h1 HL
  go_wp2_with fail
  refine HL1.out.mono ?_
  rintro e w2 ⟨la, lc, rfl, h2⟩
  clear HL1
  go_wp2_with fail
  go_loopw [19] (fun iv wr => ∃ z : Nat, z ≤ len ∧ iv = .int .i64 (z : Int) ∧ Hid (MdS w0 wr s (madeM 0 [] (cs.take z)) (.slice la len lc) cs)) (fun iv _ => len - (intOf iv).toNat)
  case atStart => exact ⟨0, Nat.zero_le _, rfl, h2⟩
  case round =>
    obtain ⟨z, hz, rfl, hst⟩ := hrel
    clear h2
    by_cases hzl : z < len
    · have hzI : (z : Int) < (len : Int) := by omega
      obtain ⟨g, c, wa, wl, wc, sq, at_, elv, hg, m0, m1, m2, HC⟩ := HR.out wr s _ z hzl hst.out
      injection elv with e1 _ e2
      subst e1
      subst e2
      clear hst HR HV
      go_wp2_with fail
      refine HC.out.mono ?_
      rintro e w3 ⟨rfl, HN2⟩
      clear HC
      go_wp2_with fail
      go_roundw
      case rel => exact ⟨z + 1, by omega, by go_num, HN2⟩
      case measure => simp [intOf]; omega
    · obtain rfl : z = len := by omega
      have hzI : ¬ (z : Int) < (z : Int) := by omega
      have HVV := Lib.hid (HV.out wr s _ hst.out)
      clear hst hzl hz HR HV
      go_wp2_with fail
      refine HVV.out.mono ?_
      rintro e w3 ⟨rfl, HN3⟩
      clear HVV
      go_wp2
      first | exact ⟨s, la, lc, rfl, HN3⟩ | (go_ret; exact ⟨s, la, lc, rfl, HN3⟩) | (refine bodyPost_ret (v := .tuple #[.pointer (some ⟨s, 0, none⟩), .slice la z lc]) (by simp [results, Try.results36, go_sem]) rfl ⟨s, la, lc, rfl, HN3⟩)

end Go.Proofs.Ytookplnegfheeaa.wT
end

section
namespace Go.Proofs.Ytookplnegfheeaa.wT
open Go.RowKit

set_option linter.unusedVariables false
set_option linter.unusedSimpArgs false

noncomputable def smB (p : Prop) : Bool := @decide p (Classical.propDecidable p)
theorem smB_true {p : Prop} (h : p) : smB p = true := @decide_eq_true p (Classical.propDecidable p) h
theorem smB_false {p : Prop} (h : ¬ p) : smB p = false := @decide_eq_false p (Classical.propDecidable p) h

def eqW (x y : Wr) : Bool := x.key.toList == y.key.toList && (x.val.toList == y.val.toList && x.gone == y.gone)
theorem bl_inj {a b : ByteArray} (h : a.toList = b.toList) : a = b := by
  rw [Lib.toList_data, Lib.toList_data] at h
  exact ByteArray.ext (Array.toList_inj.1 h)
theorem eqW_iff (x y : Wr) : eqW x y = true ↔ x = y := by
  obtain ⟨k, v, g⟩ := x
  obtain ⟨k', v', g'⟩ := y
  unfold eqW
  simp only [Bool.and_eq_true, beq_iff_eq]
  constructor
  · rintro ⟨h1, h2, h3⟩
    rw [bl_inj h1, bl_inj h2, h3]
  · intro h
    injection h with h1 h2 h3
    subst h1 h2 h3
    exact ⟨rfl, rfl, rfl⟩

theorem neq_run (x y : Wr) (W : World) : (binOp .neq 81 (.agg #[.string x.key, .string x.val, .bool x.gone]) (.agg #[.string y.key, .string y.val, .bool y.gone])).run Try.prog W = .ok (.bool (!eqW x y)) W := by
  go_simp
  by_cases h1 : x.key.toList = y.key.toList <;> by_cases h2 : x.val.toList = y.val.toList <;> by_cases h3 : x.gone = y.gone <;> simp [h1, h2, h3, eqW]
attribute [-go_sem] run_neq_struct
attribute [local irreducible] wpStill

theorem list_eq {ws vs : List Wr} (hl : ws.length = vs.length) (h : ∀ i (h1 : i < ws.length) (h2 : i < vs.length), ws[i] = vs[i]) : ws = vs := List.ext_getElem hl fun i h1 h2 => h i h1 h2

set_option maxHeartbeats 4000000 in
set_option maxRecDepth 100000 in
theorem same_any {w : World} {a1 a2 : Option Addr} {len1 len2 cap1 cap2 : Nat} {ws vs : List Wr} (h1 : WrsIs w a1 ws) (hl1 : ws.length = len1) (h2 : WrsIs w a2 vs) (hl2 : vs.length = len2) (hle1 : len1 ≤ 1000000) (hle2 : len2 ≤ 1000000) (s1 t1 s2 t2 : Int) :
    Calls Try.prog 39 #[.agg #[.int .i64 s1, .int .i64 t1, .slice a1 len1 cap1], .agg #[.int .i64 s2, .int .i64 t2, .slice a2 len2 cap2]] w fun e w' => e = .returned (.bool (smB (s1 = s2 ∧ t1 = t2 ∧ ws = vs))) ∧ Below w.heap.size w w' := by
  have hb0 : Below w.heap.size w ((w.alloc (.cells #[.int .i64 s1, .int .i64 t1, .slice a1 len1 cap1] 43)).alloc (.cells #[.int .i64 s2, .int .i64 t2, .slice a2 len2 cap2] 43)) := ((Below.refl _ w).alloc (Nat.le_refl _) _).alloc (by simp) _
  have HB0 := Lib.hid hb0
  obtain ⟨SM, hSM⟩ : ∃ SM, SM = smB (s1 = s2 ∧ t1 = t2 ∧ ws = vs) := ⟨_, rfl⟩
  rw [← hSM]
  by_cases hs : s1 = s2
  · by_cases ht : t1 = t2
    · by_cases hl : len1 = len2
      · subst hs ht hl
        have hx1 : ∀ i, ((w.alloc (.cells #[.int .i64 s1, .int .i64 t1, .slice a1 len1 cap1] 43)).alloc (.cells #[.int .i64 s1, .int .i64 t1, .slice a2 len1 cap2] 43)).cell? ⟨w.heap.size, i, none⟩ = (#[.int .i64 s1, .int .i64 t1, .slice a1 len1 cap1] : Array Value)[i]? := fun i =>
          (World.cell?_of_block (a := ⟨w.heap.size, i, none⟩) (Below.heap_alloc _ _ _ (by simp))).trans (cell_of_row _ _ i _ _ (0, 0) (heap_alloc_new w _))
        have hx2 : ∀ i, ((w.alloc (.cells #[.int .i64 s1, .int .i64 t1, .slice a1 len1 cap1] 43)).alloc (.cells #[.int .i64 s1, .int .i64 t1, .slice a2 len1 cap2] 43)).cell? ⟨w.heap.size + 1, i, none⟩ = (#[.int .i64 s1, .int .i64 t1, .slice a2 len1 cap2] : Array Value)[i]? := fun i => by
          have h9 := heap_alloc_new (w.alloc (.cells #[.int .i64 s1, .int .i64 t1, .slice a1 len1 cap1] 43)) (.cells #[.int .i64 s1, .int .i64 t1, .slice a2 len1 cap2] 43)
          rw [World.size_alloc] at h9
          exact cell_of_row _ _ i _ _ (0, 0) h9
        obtain ⟨W0, hW0⟩ : ∃ W0, W0 = ((w.alloc (.cells #[.int .i64 s1, .int .i64 t1, .slice a1 len1 cap1] 43)).alloc (.cells #[.int .i64 s1, .int .i64 t1, .slice a2 len1 cap2] 43)) := ⟨_, rfl⟩
        have hz : W0.heap.size = w.heap.size + 2 := by rw [hW0]; simp
        have HX : Hid (∀ W n, W = W0.drewN n → Below w.heap.size w W ∧ (W.cell? ⟨w.heap.size, 2, none⟩ = some (.slice a1 len1 cap1) ∧ W.cell? ⟨w.heap.size + 1, 2, none⟩ = some (.slice a2 len1 cap2))) := Lib.hid fun W n hW => by
          subst hW
          rw [← hW0] at hx1 hx2 hb0
          exact ⟨⟨hb0.os, hb0.tape, hb0.output, hb0.size, hb0.block⟩, hx1 2, hx2 2⟩
        have H1 := Lib.hid h1
        have H2 := Lib.hid h2
        have HL1 := Lib.hid hl1
        have HL2 := Lib.hid hl2
        have HT : Hid ((∀ i (h1 : i < ws.length) (h2 : i < vs.length), ws[i] = vs[i]) → smB (s1 = s1 ∧ t1 = t1 ∧ ws = vs) = true) := Lib.hid fun h => smB_true ⟨rfl, rfl, list_eq (by omega) h⟩
        have HF : Hid (∀ i (h1 : i < ws.length) (h2 : i < vs.length), ws[i] ≠ vs[i] → smB (s1 = s1 ∧ t1 = t1 ∧ ws = vs) = false) := Lib.hid fun i h1 h2 hne => smB_false fun h => hne (by have := h.2.2; subst this; rfl)
        rw [← hSM] at HT HF
        clear h1 h2 hl1 hl2 hx1 hx2 hb0 hSM
        go_enter Try.func39, Try.ntmps39
        go_wp2_with fail
        rw [← hW0]
        clear hW0 HB0
        go_loopw [30] (fun i wr => ∃ k n : Nat, k ≤ len1 ∧ i = .int .i64 (k : Int) ∧ wr = W0.drewN n ∧ Hid (∀ i (hi : i < k) (h1 : i < ws.length) (h2 : i < vs.length), ws[i] = vs[i])) (fun i _ => len1 - (intOf i).toNat)
        case atStart => exact ⟨0, 0, Nat.zero_le _, rfl, rfl, Lib.hid fun i hi => by omega⟩
        case round =>
          obtain ⟨k, n, hk, rfl, hwr, HE⟩ := hrel
          obtain ⟨hbw, c1, c2⟩ := HX.out wr n hwr
          by_cases hlt : k < len1
          · have hk1 : k < ws.length := by rw [HL1.out]; exact hlt
            have hk2 : k < vs.length := by rw [HL2.out]; exact hlt
            obtain ⟨b, off, rfl, hb, hin, _⟩ := H1.out.at_ k hk1
            obtain ⟨b', off', rfl, hb', hin', _⟩ := H2.out.at_ k hk2
            have HFk := Lib.hid (HF.out k hk1 hk2)
            obtain ⟨x, hx⟩ : ∃ x, x = ws[k] := ⟨_, rfl⟩
            obtain ⟨y, hy⟩ : ∃ y, y = vs[k] := ⟨_, rfl⟩
            rw [← hx, ← hy] at HFk
            rw [← hx] at hin
            rw [← hy] at hin'
            have hin2 : WrIn wr b (off + k * 3) x := by
              obtain ⟨h0, h1, h2⟩ := hin
              exact ⟨(hbw.cell (p := ⟨b, _, none⟩) hb).trans h0, (hbw.cell (p := ⟨b, _, none⟩) hb).trans h1, (hbw.cell (p := ⟨b, _, none⟩) hb).trans h2⟩
            have hin3 : WrIn wr b' (off' + k * 3) y := by
              obtain ⟨h0, h1, h2⟩ := hin'
              exact ⟨(hbw.cell (p := ⟨b', _, none⟩) hb').trans h0, (hbw.cell (p := ⟨b', _, none⟩) hb').trans h1, (hbw.cell (p := ⟨b', _, none⟩) hb').trans h2⟩
            obtain ⟨q0, q1, q2⟩ := hin2
            obtain ⟨r0, r1, r2⟩ := hin3
            have hcmp := neq_run x y
            have HB := Lib.hid hbw
            have HWN : Hid (wr.drew = W0.drewN (n + 1)) := Lib.hid (by rw [hwr]; rfl)
            have HXY := Lib.hid (And.intro hx hy)
            clear hin hin' hbw hwr HF hx hy
            have HHE := Lib.hid HE
            clear HE
            by_cases hxy : x = y
            · have he : eqW x y = true := (eqW_iff x y).2 hxy
              rw [he] at hcmp
              simp only [Bool.not_true, Bool.not_false] at hcmp
              have HE' : Hid (∀ i (hi : i < k + 1) (h1 : i < ws.length) (h2 : i < vs.length), ws[i] = vs[i]) := Lib.hid fun i hi h1 h2 => by
                by_cases hik : i = k
                · subst hik; rw [← HXY.out.1, ← HXY.out.2]; exact hxy
                · exact HHE.out.out i (by omega) h1 h2
              clear HFk HXY HHE HX H1 H2 HL1 HL2 HT hxy he
              go_wp2_with fail
              refine wp_region_still_lit (by rfl) (by kernel_rfl) ?_
              change wpStill _ _ (World.drew _) (fun a' => _) _ _
              repeat still_step
              refine wpStill_nil ?_
              go_wp2_with fail
              go_roundw
              · exact ⟨k + 1, n + 1, by omega, by rw [show ((k : Int) + 1) = ((k + 1 : Nat) : Int) by omega], HWN.out, HE'⟩
              · simp [intOf]; omega
            · have he : eqW x y = false := by rw [Bool.eq_false_iff]; exact fun h => hxy ((eqW_iff x y).1 h)
              rw [he] at hcmp
              simp only [Bool.not_true, Bool.not_false] at hcmp
              have HF2 : Hid (SM = false) := Lib.hid (HFk.out hxy)
              clear HFk HXY HHE HX H1 H2 HL1 HL2 HT hxy he
              go_wp2_with fail
              refine wp_region_still_lit (by rfl) (by kernel_rfl) ?_
              change wpStill _ _ (World.drew _) (fun a' => _) _ _
              repeat still_step
              refine wpStill_nil ?_
              go_wp2
              go_ret
              exact ⟨by rw [HF2.out]; simp, HB.out.drew⟩
          · obtain rfl : k = len1 := by omega
            have HF2 : Hid (SM = true) := Lib.hid (HT.out fun i h1 h2 => HE.out i (by have := HL1.out; omega) h1 h2)
            have HB := Lib.hid hbw
            clear hwr hbw HE HT HF H1 H2 HX
            go_wp2
            go_ret
            exact ⟨by rw [HF2.out]; simp, HB.out⟩
      · have hne : ws ≠ vs := fun e => hl (by rw [← hl1, ← hl2, e])
        have HSM : Hid (SM = false) := Lib.hid (hSM.trans (smB_false fun h => hne h.2.2))
        have hlI : ¬ (len1 : Int) = (len2 : Int) := by omega
        subst hs ht
        clear hb0 hne h1 h2 hl1 hl2 hSM
        go_enter Try.func39, Try.ntmps39
        go_wp2
        go_ret
        exact ⟨by rw [HSM.out]; simp, HB0.out⟩
    · have HSM : Hid (SM = false) := Lib.hid (hSM.trans (smB_false fun h => ht h.2.1))
      subst hs
      clear hb0 h1 h2 hl1 hl2 hSM
      go_enter Try.func39, Try.ntmps39
      go_wp2
      go_ret
      exact ⟨by rw [HSM.out]; simp, HB0.out⟩
  · have HSM : Hid (SM = false) := Lib.hid (hSM.trans (smB_false fun h => hs h.1))
    clear hb0 h1 h2 hl1 hl2 hSM
    go_enter Try.func39, Try.ntmps39
    go_wp2
    go_ret
    exact ⟨by rw [HSM.out]; simp, HB0.out⟩

end Go.Proofs.Ytookplnegfheeaa.wT
end

section
namespace Go.Proofs.Ytookplnegfheeaa.wT
open Go.RowKit Go.Proofs.Ytookplnegfheeaa.tC Go.Proofs.Ytookplnegfheeaa.sT

set_option linter.unusedVariables false
set_option linter.unusedSimpArgs false

/-- within a commit: what is laid of its writes -/
structure OnJ (w1 wr : World) (sq at_ : Int) (out : List Wr) (da : Option Addr) (dc : Nat) : Prop where
  low : Below w1.heap.size w1 wr
  box : Box wr w1.heap.size 43 #[.int .i64 sq, .int .i64 at_, .slice da out.length dc]
  row : RowK 81 3 (w1.heap.size + 1) wr (.slice da out.length dc) out.length (out.flatMap wrcells)
theorem OnJ.start (w1 : World) (sq at_ : Int) : OnJ w1 (w1.alloc (.cells #[.int .i64 sq, .int .i64 at_, .slice none 0 0] 43)) sq at_ [] none 0 where
  low := (Below.refl _ _).alloc (Nat.le_refl _) _
  box := Box.new w1 43 _
  row := ⟨⟨by simp, .inl ⟨by simp, by simp⟩⟩, fun u hu => by simp at hu⟩
theorem OnJ.below {w1 wr w2 : World} {sq at_ : Int} {out : List Wr} {da : Option Addr} {dc : Nat} (h : OnJ w1 wr sq at_ out da dc) (hb : Below wr.heap.size wr w2) : OnJ w1 w2 sq at_ out da dc where
  low := h.low.trans (hb.mono h.low.size)
  box := (hb.block _ h.box.lt).trans h.box
  row := h.row.below hb
/-- one write more -/
theorem OnJ.app {w1 wr : World} {sq at_ : Int} {out : List Wr} {da : Option Addr} {dc : Nat} (h : OnJ w1 wr sq at_ out da dc) (hl : out.length ≤ 900000) (x : Wr) {p : Nat} (hp : wr.heap[p]? = some (.cells #[.string x.key, .string x.val, .bool x.gone] 81)) :
    ∃ a2 c2 W2, (Builtin.append_ #[22, 22] 22 #[.slice da out.length dc, .slice (some ⟨p, 0, none⟩) 1 1]).run Try.prog wr = .ok (.slice a2 (out.length + 1) c2) W2 ∧
      (W2.cell? ⟨w1.heap.size, 2, none⟩ = some (.slice da out.length dc) ∧ W2.frozen? ⟨w1.heap.size, 2, none⟩ = false) ∧ Hid (OnJ w1 (W2.setCell ⟨w1.heap.size, 2, none⟩ (.slice a2 (out.length + 1) c2)) sq at_ (out ++ [x]) a2 c2) := by
  obtain ⟨h1, h2, h3⟩ := h
  obtain ⟨a2, c2, W2, hrun, hrow, hup⟩ := app_wr (B := w1.heap.size + 1) wr (.slice da out.length dc) out h3 x p hp (by omega) (by have := h2.lt; omega) 22
  have hgr := hup.1
  have hb2 : Box W2 w1.heap.size 43 #[.int .i64 sq, .int .i64 at_, .slice da out.length dc] := (hgr.block _ h2.lt fun e => by
    have := (h3.lt _ e.symm).1
    omega).trans h2
  have hfar : ∀ q, q ≠ w1.heap.size → (W2.setCell ⟨w1.heap.size, 2, none⟩ (.slice a2 (out.length + 1) c2)).heap[q]? = W2.heap[q]? := fun q hq => Below.heap_setCell W2 ⟨w1.heap.size, 2, none⟩ _ q hq
  refine ⟨a2, c2, W2, hrun, ⟨by have := hb2.cell 2; simpa using this, hb2.free 2⟩, Lib.hid ⟨?_, ?_, ?_⟩⟩
  · exact (h1.grown hgr h1.size fun q hq => by have := (h3.lt q hq).1; omega).setCell (p := ⟨w1.heap.size, 2, none⟩) (Nat.le_refl _) _
  · have := hb2.setSame 2 (.slice a2 (out.length + 1) c2)
    simpa using this
  · rw [List.length_append, List.length_singleton]
    exact hrow.keep fun q hq => ⟨hfar q (by have := (hrow.lt q hq).1; omega), (hrow.lt q hq).1⟩

/-- between two rounds -/
def OnI (W wr : World) (out : List CmM) (v : Value) : Prop := CmsOwn W.heap.size wr v out ∧ Below W.heap.size W wr
theorem OnI.start (W : World) : OnI W (W.alloc (.cells #[] 43)) [] (.slice (some ⟨W.heap.size, 0, none⟩) 0 0) :=
  ⟨⟨[], RowK.mk (c := 0) (Box.new W 43 #[]) rfl (Nat.le_refl _) (Nat.le_refl _) (by omega) rfl (fun q hq => absurd hq (by simp)) (fun u hu => by simp [cmrow] at hu), trivial⟩, (Below.refl _ _).alloc (Nat.le_refl _) _⟩
theorem OnI.below {W wr w2 : World} {out : List CmM} {v : Value} (h : OnI W wr out v) (hb : Below wr.heap.size wr w2) : OnI W w2 out v := ⟨h.1.below hb, h.2.trans (hb.mono h.2.size)⟩
/-- a commit that wrote such keys -/
theorem OnI.app {W w0 w1 wr : World} {out : List CmM} {oa : Option Addr} {oc : Nat} (h : OnI W w0 out (.slice oa out.length oc)) (h01 : Below w0.heap.size w0 w1) {sq at_ : Int} {ws : List Wr} {da : Option Addr} {dc : Nat} (hj : OnJ w1 wr sq at_ ws da dc) (hl : out.length ≤ 900000) :
    ∃ a2 c2 W2, (Builtin.append_ #[27, 27] 27 #[.slice oa out.length oc, .slice (some ⟨wr.heap.size, 0, none⟩) 1 1]).run Try.prog (wr.alloc (.cells #[.int .i64 sq, .int .i64 at_, .slice da ws.length dc] 43)) = .ok (.slice a2 (out.length + 1) c2) W2 ∧ Hid (OnI W W2 (out ++ [⟨sq, at_, ws⟩]) (.slice a2 (out.length + 1) c2)) := by
  have hbA : Below wr.heap.size wr (wr.alloc (.cells #[.int .i64 sq, .int .i64 at_, .slice da ws.length dc] 43)) := (Below.refl _ _).alloc (Nat.le_refl _) _
  have hb1 : Below w0.heap.size w0 wr := h01.trans (hj.low.mono h01.size)
  have hw0 := h.2.size
  have hs0 := hb1.size
  have hI := (h.below hb1).below hbA
  obtain ⟨a2, c2, W2, hrun, hown, hg⟩ := hI.1.app (⟨sq, at_, ws⟩ : CmM) ((hj.row.below hbA).keep fun q hq => ⟨rfl, by have := ((hj.row.below hbA).lt q hq).1; have := h01.size; omega⟩) (heap_alloc_new wr _) (by omega) hI.2.size 27
  refine ⟨a2, c2, W2, hrun, Lib.hid ⟨hown, hI.2.grown hg hI.2.size fun q hq => ?_⟩⟩
  obtain ⟨wvs, k3, _⟩ := hI.1
  exact (k3.lt q hq).1

end Go.Proofs.Ytookplnegfheeaa.wT
end

section
namespace Go.Proofs.Ytookplnegfheeaa.wT
open Go.RowKit Go.Proofs.Ytookplnegfheeaa.tC Go.Proofs.Ytookplnegfheeaa.sT

set_option linter.unusedVariables false
set_option linter.unusedSimpArgs false

/-- what Only answers -/
def OnP (W : World) (p : ByteArray) (cs : List CmM) (e : Ending) (W' : World) : Prop := ∃ n oa oc, e = .returned (.slice oa n oc) ∧ Hid (n = (told p cs).length ∧ CmsOwn W.heap.size W' (.slice oa n oc) (told p cs) ∧ Below W.heap.size W W')

attribute [-go_sem] Builtin.append_
set_option maxHeartbeats 4000000 in
set_option maxRecDepth 100000 in
theorem only_any {W : World} {a : Option Addr} {len cap : Nat} {cs : List CmM} (h : CIs W a cs) (hl : cs.length = len) (hle : len ≤ 1000) (hws : ∀ c ∈ cs, c.ws.length ≤ 1000) (p : ByteArray) :
    Calls Try.prog 38 #[.slice a len cap, .string p] W (OnP W p cs) := by
  have HC := Lib.hid (And.intro h hws)
  have HL := Lib.hid hl
  have H0 := Lib.hid (OnI.start W)
  have HT0 : Hid ((told p (cs.take 0)) = []) := Lib.hid rfl
  obtain ⟨Q, hQ⟩ : ∃ Q, Q = OnP W p cs := ⟨_, rfl⟩
  have HQ := Lib.hid hQ
  rw [← hQ]
  clear h hl hws hQ
  go_enter Try.func38, Try.ntmps38
  go_wp2_with fail
  go_loopw [14, 5] (fun iv v wr => ∃ z n : Nat, z ≤ len ∧ n ≤ z ∧ iv = .int .i64 (z : Int) ∧ (∃ oa oc, v = .slice oa n oc) ∧ Hid (n = (told p (cs.take z)).length ∧ OnI W wr (told p (cs.take z)) v)) (fun iv _ _ => len - (intOf iv).toNat)
  case atStart => exact ⟨0, 0, Nat.zero_le _, Nat.le_refl _, rfl, ⟨_, _, rfl⟩, Lib.hid ⟨by rw [HT0.out]; rfl, by rw [HT0.out]; exact H0.out⟩⟩
  case round =>
    obtain ⟨z, n, hz, hnz, rfl, ⟨oa, oc, rfl⟩, hst⟩ := hrel
    clear H0 HT0
    obtain ⟨wo, hwo⟩ : ∃ wo, wo = wr := ⟨_, rfl⟩
    subst hwo
    by_cases hzl : z < len
    · have hzI : (z : Int) < (len : Int) := by omega
      have hzc : z < cs.length := by rw [HL.out]; exact hzl
      have hlow : Below W.heap.size W wo := hst.out.2.2
      rcases HC.out.1 with he | ⟨b2, off2, ea, hblt2, hv⟩
      · exact absurd hzc (by rw [he]; simp)
      subst ea
      obtain ⟨m0, m1, wa, wc, m2, hw⟩ := hv z hzc
      have hwl := HC.out.2 _ (List.getElem_mem hzc)
      have HTN := Lib.hid (told_next (p := p) hzc)
      replace m0 := (hlow.cell (p := ⟨b2, off2 + z * 3, none⟩) hblt2).trans m0
      replace m1 := (hlow.cell (p := ⟨b2, off2 + z * 3 + 1, none⟩) hblt2).trans m1
      replace m2 := (hlow.cell (p := ⟨b2, off2 + z * 3 + 2, none⟩) hblt2).trans m2
      obtain ⟨x, hx⟩ : ∃ x, x = cs[z] := ⟨_, rfl⟩
      rw [← hx] at m0 m1 m2 hw hwl HTN
      clear hx
      obtain ⟨sq, at_, ws⟩ := x
      simp only at m0 m1 m2 hw hwl HTN
      obtain ⟨wl, hwle⟩ : ∃ wl, wl = ws.length := ⟨_, rfl⟩
      rw [← hwle] at m2 hwl
      obtain ⟨w1, hw1⟩ : ∃ w1, w1 = wo.alloc (.cells #[.int .i64 sq, .int .i64 at_, .slice wa wl wc] 43) := ⟨_, rfl⟩
      have hb1 : Below wo.heap.size wo w1 := by rw [hw1]; exact (Below.refl _ _).alloc (Nat.le_refl _) _
      have HJ0 := Lib.hid (OnJ.start w1 sq at_)
      have HX := Lib.hid (And.intro hb1 (And.intro (hlow.trans (hb1.mono hlow.size)) (And.intro hw hwle)))
      have hbx : Box w1 wo.heap.size 43 #[.int .i64 sq, .int .i64 at_, .slice wa wl wc] := by rw [hw1]; exact Box.new wo 43 _
      have q0 := hbx.cell 0
      have q1 := hbx.cell 1
      have q2 := hbx.cell 2
      have q2' := (((Below.refl w1.heap.size w1).alloc (Nat.le_refl _) (.cells #[.int .i64 sq, .int .i64 at_, .slice none 0 0] 43)).cell (p := ⟨wo.heap.size, 2, none⟩) hbx.lt).trans (hbx.cell 2)
      simp only [List.getElem?_toArray, List.getElem?_cons_zero, List.getElem?_cons_succ] at q0 q1 q2 q2'
      have hbr : wo.heap.size < w1.heap.size := hbx.lt
      have HTB : Hid (begF p (ws.take 0) = []) := Lib.hid rfl
      clear hw hlow hv hb1 hwle hbx
      go_wp2_with fail
      obtain ⟨db, hdb⟩ : ∃ db, db = wo.heap.size + 1 := ⟨_, rfl⟩
      have HDB : Hid (db = w1.heap.size) := Lib.hid (by rw [hdb, hw1]; simp)
      rw [← hw1]
      try rw [← hdb]
      clear hdb hw1
      try go_wp2_with fail
      go_loopw [26] (fun jv wj => ∃ j : Nat, j ≤ wl ∧ jv = .int .i64 (j : Int) ∧ ∃ k da dc, Hid (k = (begF p (ws.take j)).length ∧ OnJ w1 wj sq at_ (begF p (ws.take j)) da dc)) (fun jv _ => wl - (intOf jv).toNat)
      case atStart => exact ⟨0, Nat.zero_le _, rfl, 0, none, 0, Lib.hid ⟨by rw [HTB.out]; rfl, by rw [HTB.out]; exact HJ0.out⟩⟩
      case round =>
        obtain ⟨j, hj, rfl, k, da, dc, hsj⟩ := hrel
        clear HJ0 HTB q0 q1 q2 q2' m0 m1 m2
        by_cases hjl : j < wl
        · have hjI : (j : Int) < (wl : Int) := by omega
          have hjc : j < ws.length := by rw [← HX.out.2.2.2]; exact hjl
          have hlj := HX.out.2.1.trans (hsj.out.2.low.mono HX.out.2.1.size)
          obtain ⟨b3, off3, ea, hblt3, ⟨n0, n1, n2⟩, _⟩ := (HX.out.2.2.1.below hlj).at_ j hjc
          subst ea
          obtain ⟨y, hy⟩ : ∃ y, y = ws[j] := ⟨_, rfl⟩
          have hbn := begF_next (p := p) hjc
          rw [← hy] at n0 n1 n2 hbn
          clear hy
          obtain ⟨yk, yv, yg⟩ := y
          simp only at n0 n1 n2 hbn
          have hbA : Below wr.heap.size wr (wr.alloc (.cells #[.string yk, .string yv, .bool yg] 81)) := (Below.refl _ _).alloc (Nat.le_refl _) _
          by_cases hpre : preB p yk = true
          · rw [if_pos hpre] at hbn
            have hpp := hpre
            unfold preB at hpp
            rw [Bool.and_eq_true, decide_eq_true_eq] at hpp
            obtain ⟨hpl, hpe⟩ := hpp
            have hplI : (p.size : Int) ≤ (yk.size : Int) := by omega
            have hkl : (begF p (ws.take j)).length ≤ 900000 := by
              have := begF_len p (ws.take j)
              rw [List.length_take] at this
              omega
            obtain ⟨a2, c2, W2, hrun, ⟨g0, g1⟩, hN⟩ := (hsj.out.2.below (hbA.trans ((((Below.refl _ (wr.alloc (.cells #[.string yk, .string yv, .bool yg] 81))).alloc (Nat.le_refl _) (.cells #[.string yk, .string yv, .bool yg] 81))).mono hbA.size))).app hkl ⟨yk, yv, yg⟩ (heap_alloc_new _ _)
            have hd2 := (hsj.out.2.below hbA).box.cell 2
            simp only [List.getElem?_toArray, List.getElem?_cons_zero, List.getElem?_cons_succ] at hd2
            rw [World.size_alloc] at hrun
            rw [← hsj.out.1] at hrun hd2 hN g0
            rw [← HDB.out] at hd2 g0 g1 hN
            have HN : Hid (k + 1 = (begF p (ws.take (j + 1))).length ∧ OnJ w1 (W2.setCell ⟨db, 2, none⟩ (.slice a2 (k + 1) c2)) sq at_ (begF p (ws.take (j + 1))) a2 c2) := Lib.hid (by
              rw [hbn]
              refine ⟨by rw [List.length_append, List.length_singleton, ← hsj.out.1], hN.out⟩)
            clear hsj hlj hbn hbA hpre hpl hkl hN
            go_wp2_with fail
            go_roundw
            case rel => exact ⟨j + 1, by omega, by go_num, k + 1, a2, c2, HN⟩
            case measure => simp [intOf]; omega
          · rw [if_neg hpre, List.append_nil] at hbn
            have HN : Hid (k = (begF p (ws.take (j + 1))).length ∧ OnJ w1 (wr.alloc (.cells #[.string yk, .string yv, .bool yg] 81)) sq at_ (begF p (ws.take (j + 1))) da dc) := Lib.hid (by
              rw [hbn]
              exact ⟨hsj.out.1, hsj.out.2.below hbA⟩)
            by_cases hpl : p.size ≤ yk.size
            · have hplI : (p.size : Int) ≤ (yk.size : Int) := by omega
              have hpe : ((yk.extract 0 p.size).toList == p.toList) = false := by
                unfold preB at hpre
                rw [decide_eq_true hpl] at hpre
                simpa using hpre
              clear hsj hlj hbn hbA hpre hpl
              go_wp2_with fail
              go_roundw
              case rel => exact ⟨j + 1, by omega, by go_num, k, da, dc, HN⟩
              case measure => simp [intOf]; omega
            · have hplI : ((p.size : Int) ≤ (yk.size : Int)) = False := eq_false (by omega)
              clear hsj hlj hbn hbA hpre hpl
              go_wp2_with fail
              go_roundw
              case rel => exact ⟨j + 1, by omega, by go_num, k, da, dc, HN⟩
              case measure => simp [intOf]; omega
        · obtain rfl : j = wl := by omega
          have hjI : ¬ (j : Int) < (j : Int) := by omega
          have hbt : begF p (ws.take j) = begF p ws := by rw [HX.out.2.2.2, List.take_length]
          have hsj2 := hsj.out
          rw [hbt] at hsj2
          obtain ⟨hk1, hJ⟩ := hsj2
          have hd0 := hJ.box.cell 0
          have hd1 := hJ.box.cell 1
          have hd2 := hJ.box.cell 2
          simp only [List.getElem?_toArray, List.getElem?_cons_zero, List.getElem?_cons_succ] at hd0 hd1 hd2
          rw [← HDB.out] at hd0 hd1 hd2
          rw [← hk1] at hd2
          have hTN := HTN.out
          by_cases hk0 : k = 0
          · have hem : (begF p ws).isEmpty = true := by rw [List.isEmpty_iff]; exact List.eq_nil_of_length_eq_zero (by omega)
            rw [if_pos hem, List.append_nil] at hTN
            have HN : Hid (n = (told p (cs.take (z + 1))).length ∧ OnI W wr (told p (cs.take (z + 1))) (.slice oa n oc)) := Lib.hid (by
              rw [hTN]
              exact ⟨hst.out.1, hst.out.2.below (HX.out.1.trans (hJ.low.mono HX.out.1.size))⟩)
            subst hk0
            clear hTN hem hk1 hJ hbt hsj hst HX HTN HC HL
            go_wp2_with fail
            go_roundw
            case rel => exact ⟨z + 1, n, by omega, by omega, by go_num, ⟨_, _, rfl⟩, HN⟩
            case measure => simp [intOf]; omega
          · have hem : (begF p ws).isEmpty = false := by
              rw [Bool.eq_false_iff]
              intro h
              rw [List.isEmpty_iff] at h
              rw [h] at hk1
              exact hk0 hk1
            rw [hem] at hTN
            simp only [Bool.false_eq_true, if_false] at hTN
            have hkI : (0 : Int) < (k : Int) := by omega
            have hst2 := hst.out
            obtain ⟨hn1, hI⟩ := hst2
            rw [hn1] at hI
            obtain ⟨a2, c2, W2, hrun, hN⟩ := hI.app HX.out.1 hJ (by rw [← hn1]; omega)
            rw [← hk1, ← hn1] at hrun
            rw [← hn1] at hN
            have HN : Hid (n + 1 = (told p (cs.take (z + 1))).length ∧ OnI W W2 (told p (cs.take (z + 1))) (.slice a2 (n + 1) c2)) := Lib.hid (by
              rw [hTN]
              exact ⟨by rw [List.length_append, List.length_singleton, ← hn1], hN.out⟩)
            clear hTN hem hk1 hJ hbt hsj hst HX HTN HC HL hn1 hI hN hk0
            go_wp2_with fail
            go_roundw
            case rel => exact ⟨z + 1, n + 1, by omega, by omega, by go_num, ⟨_, _, rfl⟩, HN⟩
            case measure => simp [intOf]; omega
    · obtain rfl : z = len := by omega
      have hzI : ¬ (z : Int) < (z : Int) := by omega
      have ht : cs.take z = cs := by rw [← HL.out, List.take_length]
      have HF : Hid (Q (.returned (.slice oa n oc)) wo) := Lib.hid (by
        rw [HQ.out]
        have h2 := hst.out
        rw [ht] at h2
        exact ⟨n, oa, oc, rfl, Lib.hid ⟨h2.1, h2.2.1, h2.2.2⟩⟩)
      clear hst ht HC HL
      go_wp2
      first | exact HF.out | (go_ret; exact HF.out)

end Go.Proofs.Ytookplnegfheeaa.wT
end
