/-
  store, plainly: the commits' writes of but one key: what a store behind them tells of it.
-/
import Derived.Test.YtcebnoapgceodaaStFrM
import Derived.Test.YtcebnoapgceodaaStBs
namespace Go.Proofs.Ytcebnoapgceodaa.sT
open Go.RowKit Go.Proofs.Ytcebnoapgceodaa.tC

set_option linter.unusedVariables false
set_option linter.unusedSimpArgs false

/-- the writes of a key -/
def ofK (key : ByteArray) (ws : List Wr) : List Wr := ws.filter fun w => decide (w.key = key)
def ofC (key : ByteArray) (cs : List CmM) : List CmM := cs.map fun c => ⟨c.seq, c.at_, ofK key c.ws⟩

theorem rightL_rise {ws : List Wr} (h : rightL ws = true) : RiseW ws → RiseW ws := id
theorem ofC_len (key : ByteArray) (cs : List CmM) : (ofC key cs).length = cs.length := by unfold ofC; simp
theorem ofK_right (key : ByteArray) (ws : List Wr) : rightL (ofK key (someW ws)) = true := by
  refine rightL_of ((sortW_rise _).sublist List.filter_sublist) (fun x hx => (someW_ok ws x (List.mem_filter.1 hx).1).1) ?_
  have h1 := someW_len ws
  have h2 := List.length_filter_le (fun w : Wr => decide (w.key = key)) (someW ws)
  unfold ofK
  omega

theorem takes_of {first : Nat} {base : List Wr} (h0 : newOK first base = true) (h1 : first ≤ 1000000) (cs : List CmM) (hl : cs.length ≤ 1000000) (hc : ∀ z (h : z < cs.length), (cs[z]).seq = (first : Int) + 1 + z ∧ (cs[z]).at_ = 10 * (z : Int) ∧ rightL (cs[z]).ws = true) : Takes first base cs := by
  refine ⟨h0, fun z hz => ?_⟩
  obtain ⟨e1, e2, e3⟩ := hc z hz
  rw [e1, e2]
  obtain ⟨k1, k2⟩ := madeM_low first base (cs.take z)
  have hlast : ((madeM first base (cs.take z)).last : Int) = (first : Int) + z := by
    unfold StM.last
    rw [k1, k2, List.length_take]
    omega
  have hleast : (madeM first base (cs.take z)).least ≤ 10 * (z : Int) := by
    unfold StM.least
    rw [k2]
    cases z with
    | zero => simp
    | succ j =>
      rw [List.take_succ_eq_append_getElem (show j < cs.length by omega), List.getLast?_concat]
      simp only
      rw [(hc j (by omega)).2.1]
      omega
  unfold StM.fits
  rw [hlast, e3, decide_eq_true (show (first : Int) + 1 + (z : Int) = (first : Int) + z + 1 by omega), decide_eq_true (show (first : Int) + 1 + (z : Int) ≤ 1099511627776 by omega), decide_eq_true hleast, decide_eq_true (show 10 * (z : Int) ≤ 1099511627776 by omega)]
  rfl

theorem takes_own (key : ByteArray) (wss : List (List Wr)) (hl : wss.length ≤ 1000000) : Takes 0 [] (ofC key (listC 1 wss)) := by
  refine takes_of rfl (by omega) _ (by rw [ofC_len, listC_len]; exact hl) fun z hz => ?_
  rw [ofC_len, listC_len] at hz
  have hg := listC_get 1 wss z hz
  have hz2 : z < (listC 1 wss).length := by rw [listC_len]; exact hz
  rw [List.getElem?_eq_getElem hz2] at hg
  have e := Option.some.inj hg
  have e2 : (ofC key (listC 1 wss))[z]'(by rw [ofC_len]; exact hz2) = ⟨((listC 1 wss)[z]).seq, ((listC 1 wss)[z]).at_, ofK key ((listC 1 wss)[z]).ws⟩ := by unfold ofC; rw [List.getElem_map]
  rw [e2, e]
  exact ⟨by simp, rfl, ofK_right key _⟩
theorem ofC_12 (key : ByteArray) {cs : List CmM} {n : Nat} (h : ∀ c ∈ cs, c.ws.length ≤ n) : ∀ c ∈ ofC key cs, c.ws.length ≤ n := fun c hc => by
  obtain ⟨d, hd, rfl⟩ := List.mem_map.1 hc
  exact Nat.le_trans (List.length_filter_le _ _) (h d hd)

theorem verOf_of (seq : Int) (ws : List Wr) (key : ByteArray) : verOf seq (ofK key ws) key = verOf seq ws key := by
  unfold verOf ofK
  rw [List.filter_filter]
  simp
theorem chain_own (cs : List CmM) (key : ByteArray) : (madeM 0 [] (ofC key cs)).chain key = (madeM 0 [] cs).chain key := by
  rw [(rise_made 0 [] (ofC key cs)).2, (rise_made 0 [] cs).2]
  congr 1
  unfold ofC
  rw [List.flatMap_map]
  congr 1
  funext c
  exact verOf_of _ _ _
theorem get_own (cs : List CmM) (key : ByteArray) (seq : Int) : (madeM 0 [] (ofC key cs)).get key seq = (madeM 0 [] cs).get key seq := by
  obtain ⟨a1, a2⟩ := madeM_low 0 [] (ofC key cs)
  obtain ⟨b1, b2⟩ := madeM_low 0 [] cs
  unfold StM.get
  rw [chain_own]
  have : (madeM 0 [] (ofC key cs)).tells seq = (madeM 0 [] cs).tells seq := by unfold StM.tells StM.last; rw [a1, a2, b1, b2, ofC_len]
  rw [this]

theorem one_write {key : ByteArray} (seq : Int) : ∀ (ws : List Wr) {M : StM}, RiseM M.keys → (∀ p ∈ M.keys, p.1 = key) → (∀ w ∈ ws, w.key = key) → ∀ p ∈ (M.write seq ws).keys, p.1 = key
  | [], M, _, h, _ => h
  | w :: r, M, hr, h, hw => by
    rw [write_cons]
    refine one_write seq r (rise_put1 hr w.key _) (fun p hp => ?_) (fun x hx => hw x (List.mem_cons_of_mem _ hx))
    rcases (putM_split hr w.key (M.chain w.key ++ [_])).2.2.1 p hp with rfl | hp
    · exact hw w List.mem_cons_self
    · exact h p hp
theorem one_made (key : ByteArray) (cs : List CmM) : ∀ p ∈ (madeM 0 [] (ofC key cs)).keys, p.1 = key := by
  refine snoc_ind (P := fun cs => ∀ p ∈ (madeM 0 [] (ofC key cs)).keys, p.1 = key) ?_ (fun r c ih => ?_) cs
  · intro p hp
    simp [madeM, ofC, StM.write, StM.new] at hp
  · have e : ofC key (r ++ [c]) = ofC key r ++ [⟨c.seq, c.at_, ofK key c.ws⟩] := by unfold ofC; simp
    rw [e, madeM_snoc]
    unfold StM.commit
    exact one_write c.seq (ofK key c.ws) (M := (madeM 0 [] (ofC key r)).push ⟨c.seq, c.at_, ofK key c.ws⟩) (rise_made 0 [] (ofC key r)).1 ih fun w hw => by simpa using (List.mem_filter.1 hw).2
theorem base_own (cs : List CmM) (key : ByteArray) (seq : Int) : ((madeM 0 [] (ofC key cs)).baseL seq).length ≤ 1 := by
  have h1 : (madeM 0 [] (ofC key cs)).keys.length ≤ 1 := by
    have h2 := (rise_made 0 [] (ofC key cs)).1
    have h3 := one_made key cs
    cases hk : (madeM 0 [] (ofC key cs)).keys with
    | nil => simp
    | cons a r => cases r with
      | nil => simp
      | cons b q =>
        rw [hk] at h2 h3
        have h4 := (List.pairwise_cons.1 h2).1 b List.mem_cons_self
        have h5 := h3 a List.mem_cons_self
        have h6 := h3 b (List.mem_cons_of_mem _ List.mem_cons_self)
        exact absurd (h5.trans h6.symm) (lt_ne h4)
  unfold StM.baseL
  cases (madeM 0 [] (ofC key cs)).tells seq with
  | false => simp
  | true => exact Nat.le_trans (List.length_filterMap_le _ _) h1

end Go.Proofs.Ytcebnoapgceodaa.sT
