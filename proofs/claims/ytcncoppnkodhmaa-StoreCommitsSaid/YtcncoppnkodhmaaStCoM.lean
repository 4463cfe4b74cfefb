/-
  StoreCommits, plainly: which commits a store takes; a commit appended that points into the argument.
-/
import Derived.Test.YtcncoppnkodhmaaSD
import Derived.Test.YtcncoppnkodhmaaStFw
import Derived.Test.YtcncoppnkodhmaaStRl
import Derived.Test.YtcncoppnkodhmaaStSi
import Derived.Test.YtcncoppnkodhmaaStHd
namespace Go.Proofs.Ytcncoppnkodhmaa.sT
open Go.RowKit Go.Proofs.Ytcncoppnkodhmaa.tC Go.Proofs.Ytcncoppnkodhmaa.storeFrees

set_option linter.unusedVariables false
set_option linter.unusedSimpArgs false

/-- is a commit the next one, behind so many of List's? -/
def goodB (len : Nat) (sq at_ : Int) (r : Bool) : Bool := decide (sq = (len : Int) + 1) && decide (0 ≤ at_) && decide (at_ ≤ 1099511627776) && r && (decide (len = 0) || decide (10 * ((len : Int) - 1) ≤ at_))

theorem fits_made {wss : List (List Wr)} (hl : wss.length ≤ 30) (sq at_ : Int) (ws : List Wr) : (madeM 0 [] (listC 1 wss)).fits sq at_ ws = goodB wss.length sq at_ (rightL ws) := by
  obtain ⟨k1, k2⟩ := madeM_low 0 [] (listC 1 wss)
  have hcl := listC_len 1 wss
  have hlast : ((madeM 0 [] (listC 1 wss)).last : Int) = (wss.length : Int) := by unfold StM.last; rw [k1, k2, hcl]; omega
  have hle : (madeM 0 [] (listC 1 wss)).least = if wss.length = 0 then 0 else 10 * ((wss.length : Int) - 1) := by
    by_cases h0 : wss.length = 0
    · rw [if_pos h0]
      unfold StM.least
      have : (listC 1 wss) = [] := List.length_eq_zero_iff.1 (by rw [hcl]; exact h0)
      rw [k2, this]
      rfl
    · rw [if_neg h0]
      have hg := listC_get 1 wss (wss.length - 1) (by omega)
      unfold StM.least
      rw [k2, List.getLast?_eq_getElem?, hcl, hg]
      show 10 * ((wss.length - 1 : Nat) : Int) = _
      omega
  unfold StM.fits goodB
  rw [hlast, hle]
  rw [Bool.eq_iff_iff]
  by_cases h0 : wss.length = 0
  · rw [if_pos h0]
    simp only [Bool.and_eq_true, Bool.or_eq_true, decide_eq_true_eq]
    constructor
    · rintro ⟨⟨⟨⟨a1, a2⟩, a3⟩, a4⟩, a5⟩; exact ⟨⟨⟨⟨a1, a3⟩, a4⟩, a5⟩, .inl h0⟩
    · rintro ⟨⟨⟨⟨a1, a3⟩, a4⟩, a5⟩, _⟩; exact ⟨⟨⟨⟨a1, by omega⟩, a3⟩, a4⟩, a5⟩
  · rw [if_neg h0]
    simp only [Bool.and_eq_true, Bool.or_eq_true, decide_eq_true_eq]
    constructor
    · rintro ⟨⟨⟨⟨a1, a2⟩, a3⟩, a4⟩, a5⟩; exact ⟨⟨⟨⟨a1, by omega⟩, a4⟩, a5⟩, .inr a3⟩
    · rintro ⟨⟨⟨⟨a1, a3⟩, a4⟩, a5⟩, h | h⟩
      · exact absurd h h0
      · exact ⟨⟨⟨⟨a1, by omega⟩, h⟩, a4⟩, a5⟩

/-- an append of one commit whose writes are the argument's -/
theorem app_came {n0 : Nat} {W0 W : World} {v : Value} {cs : List CmM} (h : CmsOwn n0 W v cs) (c : CmM) {wa : Option Addr} {wc : Nat} (hw : WrsIs W0 wa c.ws) (hb : Below W0.heap.size W0 W) (hn0 : W0.heap.size ≤ n0) {p : Nat} (hp : W.heap[p]? = some (.cells #[.int .i64 c.seq, .int .i64 c.at_, .slice wa c.ws.length wc] 43)) (hl : cs.length ≤ 1000000) (hn : n0 ≤ W.heap.size) (ty : TypeId) :
    ∃ a2 c2 W2, (Builtin.append_ #[27, 27] ty #[v, .slice (some ⟨p, 0, none⟩) 1 1]).run Try.prog W = .ok (.slice a2 (cs.length + 1) c2) W2 ∧ CIs W2 a2 (cs ++ [c]) ∧ Below W0.heap.size W0 W2 ∧ W.grownBy W2 v.ownBlock := by
  obtain ⟨wvs, h1, h2⟩ := h
  obtain ⟨i, hi, hz, hi1, hi2⟩ := info_parts infoCm
  have hlen := h2.len
  obtain ⟨v', W2, hr, ho, hu⟩ := run_app (P := Try.prog) W n0 27 ty 43 i _ 3 40 Try.underlying27 hi hz hi1 hi2 rfl (by decide) v cs.length (cmrow wvs cs) h1.1 ⟨p, 0, none⟩ 1 1 [.int .i64 c.seq, .int .i64 c.at_, .slice wa c.ws.length wc] rfl (fun j u hj => World.news_of_block hp j u (by simpa using hj)) (fun u hu => by simp at hu; rcases hu with rfl | rfl | rfl <;> rfl) (by unfold maxLen; omega) (by omega) hn
  have hm : RowK 43 3 n0 W2 v' (cs.length + 1) (cmrow (wvs ++ [.slice wa c.ws.length wc]) (cs ++ [c])) := by
    rw [cmrow_app _ _ _ _ hlen]
    refine ⟨ho, fun u hu => ?_⟩
    rcases List.mem_append.1 hu with hu | hu
    · exact h1.2 u hu
    · simp at hu; rcases hu with rfl | rfl | rfl <;> rfl
  obtain ⟨a2, c2, rfl, _⟩ := hm.form
  have hfar : ∀ q, q < W.heap.size → (∃ arr, Box W q 81 arr) → W2.heap[q]? = W.heap[q]? := fun q hq hb => hu.1.block q hq fun e => by
    obtain ⟨arr, h3⟩ := hb
    obtain ⟨arr2, h4⟩ := rowk_box h1 e.symm
    exact box_ne h3 h4 (by decide) rfl
  have hbel : Below W0.heap.size W0 W2 := hb.grown hu.1 (by have := hb.size; omega) fun q hq => by
    have := (h1.lt q hq).1
    omega
  refine ⟨a2, c2, W2, hr, ?_, hbel, hu.1⟩
  have lt : ∀ {l : List Value} {cs : List CmM}, CmsAt (fun q => n0 ≤ q) W l cs → CmsAt (fun q => n0 ≤ q ∧ q < W.heap.size) W l cs := fun {l cs} => by
    induction l generalizing cs with
    | nil => cases cs with
      | nil => exact fun _ => trivial
      | cons _ _ => exact fun h => h.elim
    | cons v r ih => cases cs with
      | nil => exact fun h => h.elim
      | cons c q => exact fun ⟨h1, h2⟩ => ⟨⟨h1.1, fun b hb => ⟨h1.2 b hb, (h1.1.lt b hb).2⟩⟩, ih h2⟩
  have hold : CmsAt (fun q => True) W2 wvs cs := (lt h2).keepB fun q hq hb => ⟨hfar q hq.2 hb, trivial⟩
  have hmO := RowO.of (hm.keep (B' := 0) fun q hq => ⟨rfl, Nat.zero_le _⟩)
  obtain ⟨g, o, e, _, hlt, hc⟩ := hmO.at_ (Nat.succ_pos _)
  have hwn : WrsIs W2 wa c.ws := hw.below hbel
  refine .inr ⟨g, o, e, hlt, fun i hi => ?_⟩
  rw [cmrow_app _ _ _ _ hlen] at hc
  have hrl : (cmrow wvs cs).length = cs.length * 3 := h1.len
  by_cases hil : i < cs.length
  · obtain ⟨v, _, e2, e3, e4, e5⟩ := cms_get hold i hil
    obtain ⟨wa', wc', rfl, h4⟩ := wrs_of_row e2
    have hap : ∀ q, q < cs.length * 3 → (cmrow wvs cs ++ [Value.int .i64 c.seq, .int .i64 c.at_, .slice wa c.ws.length wc])[q]? = (cmrow wvs cs)[q]? := fun q hq => List.getElem?_append_left (by rw [hrl]; exact hq)
    rw [List.getElem_append_left hil]
    exact ⟨hc _ _ ((hap _ (by omega)).trans e3), by rw [Nat.add_assoc]; exact hc _ _ ((hap _ (by omega)).trans e4), wa', wc', by rw [Nat.add_assoc]; exact hc _ _ ((hap _ (by omega)).trans e5), h4⟩
  · have hie : i = cs.length := by rw [List.length_append, List.length_singleton] at hi; omega
    subst hie
    have hap : ∀ j, (cmrow wvs cs ++ [Value.int .i64 c.seq, .int .i64 c.at_, .slice wa c.ws.length wc])[cs.length * 3 + j]? = [Value.int .i64 c.seq, .int .i64 c.at_, .slice wa c.ws.length wc][j]? := fun j => by
      rw [List.getElem?_append_right (by rw [hrl]; omega), hrl, Nat.add_sub_cancel_left]
    have hlast : (cs ++ [c])[cs.length]'hi = c := by simp
    rw [hlast]
    exact ⟨hc (cs.length * 3) _ (by have := hap 0; rw [Nat.add_zero] at this; rw [this]; rfl), by rw [Nat.add_assoc]; exact hc _ _ (hap 1), wa, wc, by rw [Nat.add_assoc]; exact hc _ _ (hap 2), hwn⟩

/-- the store after a turn -/
theorem store_far {P : Nat → Prop} {W W2 : World} {s : Nat} {S : StM} {n0 : Nat} {v : Value} {Q : Nat → Prop} (h : StoreAt P W s S) (hP : ∀ q, P q → n0 ≤ q ∧ q < W.heap.size) (hg : W.grownBy W2 v.ownBlock) (hv : ∀ g, v.ownBlock = some g → g < n0) : ∃ P2, StoreAt P2 W2 s S := by
  obtain ⟨cv, wvs, ls, BT, BC, BM, hst⟩ := h
  exact ⟨P, cv, wvs, ls, BT, BC, BM, hst.keep hg.size fun q hq _ _ => ⟨hg.block q (hP q hq).2 fun e => by have := hv q e.symm; have := (hP q hq).1; omega, hq⟩⟩

end Go.Proofs.Ytcncoppnkodhmaa.sT
