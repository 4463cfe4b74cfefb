/-
  StoreAgain, plainly: a store begun anew of what there was behind a commit, with the commits behind it.
-/
import Derived.Test.YtcncoppnkodhmaaSD
namespace Go.Proofs.Ytcncoppnkodhmaa.sT
open Go.RowKit Go.Proofs.Ytcncoppnkodhmaa.tC Go.Proofs.Ytcncoppnkodhmaa.storeFrees

set_option linter.unusedVariables false
set_option linter.unusedSimpArgs false

/-- what a key has behind writes, one list behind another -/
theorem lastW_app (X Y : List Wr) (key : ByteArray) : lastW (X ++ Y) key = if (Y.filter fun w => decide (w.key = key)) = [] then lastW X key else lastW Y key := by
  unfold lastW
  rw [List.filter_append]
  by_cases h : (Y.filter fun w => decide (w.key = key)) = []
  · rw [if_pos h, h, List.append_nil]
  · rw [if_neg h, List.getLast?_append]
    cases hl : (Y.filter fun w => decide (w.key = key)).getLast? with
    | none => exact absurd (List.getLast?_eq_none_iff.1 hl) h
    | some w => rfl
theorem lastW_cong {X X' : List Wr} {key : ByteArray} (h : lastW X key = lastW X' key) (Y : List Wr) : lastW (X ++ Y) key = lastW (X' ++ Y) key := by
  rw [lastW_app, lastW_app, h]
/-- a write that a key's last value is of -/
theorem lastW_mem {ws : List Wr} {key : ByteArray} {v : ByteArray} (h : lastW ws key = some (.string v)) : ∃ w ∈ ws, w.key = key ∧ w.val = v ∧ w.gone = false := by
  unfold lastW at h
  cases hl : (ws.filter fun w => decide (w.key = key)).getLast? with
  | none => rw [hl] at h; cases h
  | some w =>
    rw [hl] at h
    simp only at h
    have hm := List.mem_of_getLast? hl
    rw [List.mem_filter] at hm
    cases hg : w.gone with
    | true => rw [hg] at h; simp at h
    | false =>
      rw [hg] at h
      simp only [Bool.false_eq_true, if_false, Option.some.injEq, Value.string.injEq] at h
      exact ⟨w, hm.1, of_decide_eq_true hm.2, h, hg⟩
/-- of rising keys that are not gone -/
theorem lastW_rise {ws : List Wr} (hr : RiseW ws) (hg : ∀ w ∈ ws, w.gone = false) (key : ByteArray) : lastW ws key = getK (ws.map kvW) key := by
  unfold lastW getK
  induction ws with
  | nil => rfl
  | cons a r ih =>
    obtain ⟨h1, h2⟩ := List.pairwise_cons.1 hr
    rw [List.map_cons, List.find?_cons]
    by_cases e : a.key = key
    · rw [List.filter_cons_of_pos (by simpa using e)]
      have hn : (r.filter fun w => decide (w.key = key)) = [] := by
        rw [List.filter_eq_nil_iff]
        intro w hw hk
        have hk : w.key = key := of_decide_eq_true hk
        have := h1 w hw
        rw [hk, ← e] at this
        exact lt_ne this rfl
      have hp : decide ((kvW a).1 = key) = true := decide_eq_true e
      rw [hn, List.getLast?_singleton, hp]
      simp only
      rw [hg a List.mem_cons_self]
      rfl
    · rw [List.filter_cons_of_neg (by simpa using e)]
      have hp : decide ((kvW a).1 = key) = false := decide_eq_false e
      rw [hp]
      exact ih h2 fun w hw => hg w (List.mem_cons_of_mem _ hw)

theorem valM_gone {seq : Int} {p : ByteArray × List Ver} {w : Wr} (h : valM seq p = some w) : w.gone = false ∧ w.key = p.1 := by
  unfold valM at h
  split at h
  · injection h with h
    rw [← h]
    exact ⟨rfl, rfl⟩
  · cases h

structure AgIn (first : Nat) (B : List Wr) (cs : List CmM) (n : Nat) : Prop where
  seq : ∀ z (h : z < cs.length), (cs[z]).seq = (first : Int) + 1 + z
  le : n ≤ cs.length
  okB : ∀ w ∈ B, isR w = true
  okC : ∀ c ∈ cs, ∀ w ∈ c.ws, isR w = true

theorem AgIn.tells {first : Nat} {B : List Wr} {cs : List CmM} {n : Nat} (h : AgIn first B cs n) {seq : Int} (h1 : (first : Int) ≤ seq) (h2 : seq ≤ (first : Int) + cs.length) : (madeM first B cs).tells seq = true := by
  obtain ⟨a1, a2⟩ := madeM_low first B cs
  unfold StM.tells StM.last
  rw [a1, a2, Bool.and_eq_true, decide_eq_true_eq, decide_eq_true_eq]
  omega
/-- the base of the store begun anew -/
def agB (first : Nat) (B : List Wr) (cs : List CmM) (n : Nat) : List Wr := (madeM first B cs).baseL ((first + n : Nat) : Int)
theorem AgIn.base {first : Nat} {B : List Wr} {cs : List CmM} {n : Nat} (h : AgIn first B cs n) : RiseW (agB first B cs n) ∧ (∀ w ∈ agB first B cs n, w.gone = false) ∧ (∀ w ∈ agB first B cs n, isR w = true) ∧ ∀ key, lastW (agB first B cs n) key = lastW (upTo B cs ((first + n : Nat) : Int)) key := by
  have hle := h.le
  have h1 : (first : Int) ≤ ((first + n : Nat) : Int) := by omega
  have h2 : ((first + n : Nat) : Int) ≤ (first : Int) + cs.length := by omega
  have ht := h.tells h1 h2
  obtain ⟨k1, k2⟩ := look_all (rise_made first B cs).1 _ ht
  have e : agB first B cs n = (madeM first B cs).look ⟨#[]⟩ ((first + n : Nat) : Int) ⟨#[]⟩ := base_look _ _
  have e2 : (madeM first B cs).look ⟨#[]⟩ ((first + n : Nat) : Int) ⟨#[]⟩ = (madeM first B cs).seen ⟨#[]⟩ ⟨#[]⟩ ((first + n : Nat) : Int) := by unfold StM.look; rw [ht]; rfl
  have hri : RiseW (agB first B cs n) := by rw [e, e2]; exact seen_rise (rise_made first B cs).1 _ _ _
  have hg : ∀ w ∈ agB first B cs n, w.gone = false := fun w hw => by
    rw [e, e2] at hw
    unfold StM.seen at hw
    obtain ⟨p, _, hp⟩ := List.mem_filterMap.1 hw
    exact (valM_gone hp).1
  have hl : ∀ key, lastW (agB first B cs n) key = lastW (upTo B cs ((first + n : Nat) : Int)) key := fun key => by
    rw [lastW_rise hri hg, e, k2, get_last h.seq h1 h2]
  refine ⟨hri, hg, fun w hw => ?_, hl⟩
  have h3 : lastW (agB first B cs n) w.key = some (.string w.val) := by
    rw [lastW_rise hri hg, e]
    rw [e] at hw
    exact (look_get (rise_made first B cs).1 ht hw).2
  rw [hl] at h3
  obtain ⟨x, hx, q1, q2, q3⟩ := lastW_mem h3
  have hxr : isR x = true := by
    unfold upTo at hx
    rcases List.mem_append.1 hx with hx | hx
    · exact h.okB x hx
    · obtain ⟨c, hc, hxc⟩ := List.mem_flatMap.1 hx
      exact h.okC c (List.takeWhile_subset _ hc) x hxc
  have hw2 : w = x := by
    obtain ⟨a, b, c⟩ := w
    obtain ⟨a', b', c'⟩ := x
    have := hg _ hw
    simp only at q1 q2 q3 this
    rw [← q1, ← q2, q3, this]
  rw [hw2]
  exact hxr

theorem upTo_drop {first : Nat} {B : List Wr} {cs : List CmM} {n : Nat} (h : AgIn first B cs n) {seq : Int} (h1 : ((first + n : Nat) : Int) ≤ seq) : upTo B cs seq = upTo B cs ((first + n : Nat) : Int) ++ ((cs.drop n).takeWhile fun c => decide (c.seq ≤ seq)).flatMap fun c => c.ws := by
  have hle := h.le
  have e1 : upTo B cs ((first + n : Nat) : Int) = B ++ (cs.take n).flatMap fun c => c.ws := by
    refine upTo_is' (fun i hi hin => by rw [h.seq i hi]; omega) hle ?_
    by_cases e : n = cs.length
    · exact .inl e
    · exact .inr ⟨by omega, by rw [h.seq n (by omega)]; omega⟩
  have e2 : (cs.takeWhile fun c => decide (c.seq ≤ seq)) = cs.take n ++ (cs.drop n).takeWhile fun c => decide (c.seq ≤ seq) := by
    conv => lhs; rw [← List.take_append_drop n cs]
    rw [List.takeWhile_append_of_pos]
    intro c hc
    obtain ⟨i, hi, rfl⟩ := List.getElem_of_mem hc
    rw [List.length_take] at hi
    rw [List.getElem_take, h.seq i (by omega)]
    exact decide_eq_true (by omega)
  rw [e1]
  unfold upTo
  rw [e2, List.flatMap_append, List.append_assoc]

theorem drop_seq {first : Nat} {cs : List CmM} {n : Nat} (hs : ∀ z (h : z < cs.length), (cs[z]).seq = (first : Int) + 1 + z) : ∀ z (h : z < (cs.drop n).length), ((cs.drop n)[z]).seq = ((first + n : Nat) : Int) + 1 + z := fun z h => by
  rw [List.length_drop] at h
  rw [List.getElem_drop, hs (n + z) (by omega)]
  omega

/-- THE STORE BEGUN ANEW TELLS THE SAME -/
theorem ag_look {first : Nat} {B : List Wr} {cs : List CmM} {n : Nat} (h : AgIn first B cs n) {seq : Int} (h1 : ((first + n : Nat) : Int) ≤ seq) (h2 : seq ≤ (first : Int) + cs.length) :
    ((madeM (first + n) (agB first B cs n) (cs.drop n)).look ⟨#[]⟩ seq ⟨#[]⟩).map kvW = atM (upTo B cs seq) := by
  have hle := h.le
  rw [← tell_at (drop_seq h.seq) h1 (by rw [List.length_drop]; omega)]
  refine ext_rise (atM_rise _).1 (atM_rise _).1 fun key => ?_
  rw [(atM_rise _).2, (atM_rise _).2, upTo_drop h h1]
  unfold upTo
  exact lastW_cong (h.base.2.2.2 key) _

theorem made_versions (first : Nat) (B : List Wr) (cs : List CmM) : (madeM first B cs).versions = B.length + (cs.map fun c => c.ws.length).sum := by
  have h := made_sum (fun _ => true) first B cs
  have e : ∀ vs : List Ver, cntQ (fun _ => true) vs = vs.length := fun vs => by unfold cntQ; simp
  simp only [e, if_true] at h
  exact h
/-- as many versions as the old one behind a Vacuum -/
theorem ag_versions {first : Nat} {B : List Wr} {cs : List CmM} {n N : Nat} (h : AgIn first B cs n) (hg : SG (madeM first B cs) N) (hb1 : ∀ w ∈ B, w.gone = false) (hbr : RiseW B) :
    ((madeM first B cs).vacuum n).versions = (madeM (first + n) (agB first B cs n) (cs.drop n)).versions := by
  rw [vac_versions hg hb1 hbr h.seq h.le, made_versions]
  unfold agB
  rw [base_look]

theorem agB_len {first : Nat} {B : List Wr} {cs : List CmM} {n N : Nat} (hg : SG (madeM first B cs) N) : (agB first B cs n).length ≤ N := by
  have h1 := ver_le hg.some
  have h2 := hg.ver
  unfold StM.versions at h2
  unfold agB StM.baseL
  split
  · have := List.length_filterMap_le (valM ((first + n : Nat) : Int)) (madeM first B cs).keys
    omega
  · simp

/-- it takes the commits -/
theorem ag_takes {first : Nat} {B : List Wr} {wss : List (List Wr)} {n : Nat} (hf : first ≤ 100000) (h : AgIn first B (listC ((first : Int) + 1) wss) n) (hl : wss.length ≤ 30) : Takes (first + n) (agB first B (listC ((first : Int) + 1) wss) n) ((listC ((first : Int) + 1) wss).drop n) := by
  have hle := h.le
  rw [listC_len] at hle
  obtain ⟨b1, b2, b3, _⟩ := h.base
  refine ⟨?_, fun z hz => ?_⟩
  · unfold newOK
    have hrw : rightW (agB first B (listC ((first : Int) + 1) wss) n) (agB first B (listC ((first : Int) + 1) wss) n).length = true := by
      unfold rightW
      rw [List.all_eq_true]
      intro i _
      exact okR_of b1 b3 i
    have hga : (agB first B (listC ((first : Int) + 1) wss) n).any Wr.gone = false := by
      rw [List.any_eq_false]
      intro w hw
      rw [b2 w hw]
      simp
    rw [hrw, hga, decide_eq_true (show (0 : Int) ≤ ((first + n : Nat) : Int) by omega), decide_eq_true (show ((first + n : Nat) : Int) ≤ 1099511627776 by omega)]
    rfl
  · rw [List.length_drop, listC_len] at hz
    have hget : ∀ i (hi : i < wss.length) (hi2 : i < (listC ((first : Int) + 1) wss).length), (listC ((first : Int) + 1) wss)[i] = ⟨(first : Int) + 1 + i, 10 * i, someW wss[i]⟩ := fun i hi hi2 => by
      have hg := listC_get ((first : Int) + 1) wss i hi
      rw [List.getElem?_eq_getElem hi2] at hg
      exact Option.some.inj hg
    rw [List.getElem_drop, hget (n + z) (by omega)]
    obtain ⟨k1, k2⟩ := madeM_low (first + n) (agB first B (listC ((first : Int) + 1) wss) n) (((listC ((first : Int) + 1) wss).drop n).take z)
    have hlast : ((madeM (first + n) (agB first B (listC ((first : Int) + 1) wss) n) (((listC ((first : Int) + 1) wss).drop n).take z)).last : Int) = (first : Int) + n + z := by
      unfold StM.last
      rw [k1, k2, List.length_take, List.length_drop, listC_len]
      omega
    have hleast : (madeM (first + n) (agB first B (listC ((first : Int) + 1) wss) n) (((listC ((first : Int) + 1) wss).drop n).take z)).least ≤ 10 * ((n + z : Nat) : Int) := by
      unfold StM.least
      rw [k2]
      cases z with
      | zero => simp; omega
      | succ j =>
        have hj2 : j < ((listC ((first : Int) + 1) wss).drop n).length := by rw [List.length_drop, listC_len]; omega
        rw [List.take_succ_eq_append_getElem hj2, List.getLast?_concat, List.getElem_drop, hget (n + j) (by omega)]
        simp only
        omega
    unfold StM.fits
    simp only
    rw [hlast, someW_right, decide_eq_true (show (first : Int) + 1 + ((n + z : Nat) : Int) = (first : Int) + n + z + 1 by omega), decide_eq_true (show (first : Int) + 1 + ((n + z : Nat) : Int) ≤ 1099511627776 by omega), decide_eq_true hleast, decide_eq_true (show 10 * ((n + z : Nat) : Int) ≤ 1099511627776 by omega)]
    rfl

/-- of a law's base and commits -/
theorem ag_in {first : Nat} (bs : List Wr) (wss : List (List Wr)) {n : Nat} (hn : n ≤ wss.length) : AgIn first (baseB bs) (listC ((first : Int) + 1) wss) n := by
  refine ⟨fun z hz => by rw [listC_seq], by rw [listC_len]; exact hn, fun w hw => (baseB_ok bs w hw).1, fun c hc w hw => ?_⟩
  obtain ⟨i, hi, hci⟩ := List.getElem_of_mem hc
  rw [listC_len] at hi
  have h := listC_get ((first : Int) + 1) wss i hi
  rw [List.getElem?_eq_getElem (by rw [listC_len]; exact hi)] at h
  rw [← hci, Option.some.inj h] at hw
  exact (someW_ok _ w hw).1

end Go.Proofs.Ytcncoppnkodhmaa.sT
