/-
  store, plainly: what a store tells behind Vacuum.
  store, plainly: Vacuum keeps a store within its bounds; what all keys have behind it.
  store, plainly: how many versions there are behind Vacuum.
  store's laws: what several of them begin with: a base without what is gone, a list of commits, a store behind them.
-/
import Derived.Test.YtcebnoapgceodaaSC
import Derived.Test.YtcebnoapgceodaaStFw
import Derived.Test.YtcebnoapgceodaaStTh
section
namespace Go.Proofs.Ytcebnoapgceodaa.sT
open Go.RowKit Go.Proofs.Ytcebnoapgceodaa.tC

set_option linter.unusedVariables false
set_option linter.unusedSimpArgs false

theorem up_pre {vs : List Ver} (h : Rise vs) (seq : Int) : upN vs seq ≤ vs.length ∧ ∀ i (hi : i < vs.length), i < upN vs seq → (vs[i]).seq ≤ seq := by
  refine ⟨List.countP_le_length, ?_⟩
  refine snoc_ind (P := fun vs : List Ver => Rise vs → ∀ i (hi : i < vs.length), i < upN vs seq → (vs[i]).seq ≤ seq) (fun _ i hi => absurd hi (by simp)) (fun r v ih hr i hi hlt => ?_) vs h
  have hr2 : Rise r := fun a b hab hb => by
    have := hr a b hab (by rw [List.length_append]; omega)
    rwa [List.getElem_append_left (by omega), List.getElem_append_left hb] at this
  have hup : upN (r ++ [v]) seq = upN r seq + (if v.seq ≤ seq then 1 else 0) := by
    unfold upN
    rw [List.countP_append, List.countP_cons, List.countP_nil]
    by_cases e : v.seq ≤ seq <;> simp [e]
  by_cases e : v.seq ≤ seq
  · by_cases hir : i < r.length
    · have := hr i r.length (by omega) (by simp)
      rw [List.getElem_append_right (Nat.le_refl _)] at this
      simp only [Nat.sub_self, List.getElem_cons_zero] at this
      omega
    · rw [List.getElem_append_right (by omega)]
      have : i - r.length = 0 := by rw [List.length_append, List.length_singleton] at hi; omega
      simp only [this, List.getElem_cons_zero]
      exact e
  · rw [hup, if_neg e, Nat.add_zero] at hlt
    have hle : upN r seq ≤ r.length := List.countP_le_length
    rw [List.getElem_append_left (by omega)]
    exact ih hr2 i (by omega) hlt

theorem up_mono {vs : List Ver} {a b : Int} (h : a ≤ b) : upN vs a ≤ upN vs b := by
  unfold upN
  exact List.countP_mono_left fun v _ hv => by simp only [decide_eq_true_eq] at hv ⊢; omega
theorem up_drop {vs : List Ver} (h : Rise vs) (seq : Int) (f : Nat) (hf : f ≤ upN vs seq) : upN (vs.drop f) seq = upN vs seq - f := by
  obtain ⟨h1, h2⟩ := up_pre h seq
  have e : upN vs seq = upN (vs.take f) seq + upN (vs.drop f) seq := by
    unfold upN
    rw [← List.countP_append, List.take_append_drop]
  have e2 : upN (vs.take f) seq = f := by
    have : upN (vs.take f) seq = (vs.take f).length := by
      unfold upN
      refine List.countP_eq_length.2 fun v hv => ?_
      obtain ⟨i, hi, rfl⟩ := List.getElem_of_mem hv
      rw [List.length_take] at hi
      rw [List.getElem_take]
      exact decide_eq_true (h2 i (by omega) (by omega))
    rw [this, List.length_take]
    omega
  omega

/-- what was let go of isn't told of -/
theorem cut_tell {vs : List Ver} (h : Rise vs) {seq sq : Int} (hs : seq ≤ sq) : atR (cutV vs seq) (upN (cutV vs seq) sq) = atR vs (upN vs sq) := by
  have hm := up_mono (vs := vs) hs
  obtain ⟨h1, _⟩ := up_pre h seq
  obtain ⟨h3, _⟩ := up_pre h sq
  have hf : firstC vs (upN vs seq) ≤ upN vs seq ∧ (firstC vs (upN vs seq) = upN vs seq → atR vs (upN vs seq) = (⟨#[]⟩, false)) := by
    cases hr : upN vs seq with
    | zero => exact ⟨Nat.le_refl _, fun _ => rfl⟩
    | succ m =>
      rw [firstC_at vs m (by omega)]
      cases hg : (vs[m]'(by omega)).gone with
      | true => exact ⟨Nat.le_refl _, fun _ => by rw [atR_at vs m (by omega), hg]; rfl⟩
      | false => exact ⟨by simp, fun e => by simp at e⟩
  unfold cutV
  rw [up_drop h sq _ (by omega)]
  by_cases he : firstC vs (upN vs seq) = upN vs sq
  · have e2 : upN vs seq = upN vs sq := by omega
    rw [he, Nat.sub_self, atR_zero, ← e2, hf.2 (by omega)]
  · unfold atR
    have e : (vs.drop (firstC vs (upN vs seq))).take (upN vs sq - firstC vs (upN vs seq)) = (vs.take (upN vs sq)).drop (firstC vs (upN vs seq)) := by rw [List.drop_take]
    rw [e, List.getLast?_drop, if_neg (by rw [List.length_take]; omega)]

theorem vac_chain {ks : KL} (hr : RiseM ks) (f : ByteArray → Bool) (seq : Int) (x : ByteArray) : (lookK (vacK f seq ks) x).getD [] = if f x then cutV ((lookK ks x).getD []) seq else (lookK ks x).getD [] := by
  cases hl : lookK ks x with
  | none =>
    have h1 := look_none hl
    have h2 : lookK (vacK f seq ks) x = none := look_no fun p hp => by
      obtain ⟨q, hq, e⟩ := vac_keys hp
      rw [e]; exact h1 q hq
    rw [h2]
    cases f x <;> simp [cutV]
  | some vs =>
    obtain ⟨A, C, rfl, hA, hC⟩ := look_split hr hl
    have e : vacK f seq (A ++ (x, vs) :: C) = vacK f seq A ++ ((match vac1 f seq (x, vs) with | none => [] | some q => [q]) ++ vacK f seq C) := by
      unfold vacK
      rw [List.filterMap_append, List.filterMap_cons]
      cases vac1 f seq (x, vs) <;> rfl
    have hA2 : ∀ p ∈ vacK f seq A, Lt p.1 x := fun p hp => by
      obtain ⟨q, hq, e⟩ := vac_keys hp
      rw [e]; exact hA q hq
    have hC2 : ∀ p ∈ vacK f seq C, p.1 ≠ x := fun p hp => by
      obtain ⟨q, hq, e⟩ := vac_keys hp
      rw [e]; exact fun e2 => lt_ne (hC q hq) e2.symm
    rw [e, Option.getD_some]
    unfold vac1
    cases hf : f x with
    | false => simp only [hf, Bool.false_eq_true, if_false]; rw [List.singleton_append, look_mid hA2]; rfl
    | true =>
      simp only [hf, if_true]
      by_cases h0 : cutV vs seq = []
      · rw [if_pos h0]
        simp only [List.nil_append]
        rw [look_no (fun p hp => (List.mem_append.1 hp).elim (fun h => lt_ne (hA2 p h)) (hC2 p)), h0]
        rfl
      · rw [if_neg h0]
        simp only
        rw [List.singleton_append, look_mid hA2]
        rfl

/-- BEHIND VACUUM A STORE TELLS WHAT IT TOLD, from its new Low on -/
theorem vac_get {M : StM} (hr : RiseM M.keys) (hg : ∀ key, Rise (M.chain key)) {n : Nat} (hn : n ≤ M.cms.length) (key : ByteArray) {sq : Int} (h1 : ((M.low + n : Nat) : Int) ≤ sq) : (M.vacuum n).get key sq = M.get key sq := by
  have hl : (M.vacuum n).last = M.last := by unfold StM.last StM.vacuum; simp only [List.length_drop]; omega
  have ht : (M.vacuum n).tells sq = M.tells sq := by
    unfold StM.tells
    rw [hl]
    have e1 : ((M.vacuum n).low : Int) = ((M.low + n : Nat) : Int) := rfl
    rw [e1, decide_eq_true h1, decide_eq_true (show (M.low : Int) ≤ sq by omega)]
  have hc := vac_chain hr (fun k => (allW (M.cms.take n)).any fun w => decide (w.key = k)) ((M.low + n : Nat) : Int) key
  have hch : (M.vacuum n).chain key = if ((allW (M.cms.take n)).any fun w => decide (w.key = key)) then cutV (M.chain key) ((M.low + n : Nat) : Int) else M.chain key := hc
  unfold StM.get
  rw [ht, hch]
  split
  · split
    · exact cut_tell (hg key) h1
    · rfl
  · rfl

end Go.Proofs.Ytcebnoapgceodaa.sT
end

section
namespace Go.Proofs.Ytcebnoapgceodaa.sT
open Go.RowKit Go.Proofs.Ytcebnoapgceodaa.tC

set_option linter.unusedVariables false
set_option linter.unusedSimpArgs false

theorem vac_rise (f : ByteArray → Bool) (seq : Int) : ∀ {ks : KL}, RiseM ks → RiseM (vacK f seq ks)
  | [], _ => List.Pairwise.nil
  | a :: r, h => by
    obtain ⟨h1, h2⟩ := List.pairwise_cons.1 h
    unfold vacK
    rw [List.filterMap_cons]
    cases ha : vac1 f seq a with
    | none => exact vac_rise f seq h2
    | some q =>
      refine List.pairwise_cons.2 ⟨fun y hy => ?_, vac_rise f seq h2⟩
      obtain ⟨p, hp, e⟩ := vac_keys (f := f) (seq := seq) (ks := r) hy
      rw [vac1_key ha, e]
      exact h1 p hp
theorem vac1_is {f : ByteArray → Bool} {seq : Int} {p q : ByteArray × List Ver} (h : vac1 f seq p = some q) : q = p ∨ (q = (p.1, cutV p.2 seq) ∧ cutV p.2 seq ≠ []) := by
  unfold vac1 at h
  split at h
  · split at h
    · cases h
    · rename_i h2
      injection h with h
      exact .inr ⟨h.symm, h2⟩
  · injection h with h
    exact .inl h.symm
theorem vac_mem {f : ByteArray → Bool} {seq : Int} {ks : KL} {q : ByteArray × List Ver} (h : q ∈ vacK f seq ks) : ∃ p ∈ ks, q = p ∨ (q = (p.1, cutV p.2 seq) ∧ cutV p.2 seq ≠ []) := by
  obtain ⟨p, hp, e⟩ := List.mem_filterMap.1 h
  exact ⟨p, hp, vac1_is e⟩
theorem vac_sum (f : ByteArray → Bool) (seq : Int) : ∀ (ks : KL), ((vacK f seq ks).map fun k => k.2.length).sum ≤ (ks.map fun k => k.2.length).sum
  | [] => Nat.le_refl _
  | a :: r => by
    have ih := vac_sum f seq r
    unfold vacK at ih ⊢
    rw [List.filterMap_cons]
    cases ha : vac1 f seq a with
    | none => simp only [List.map_cons, List.sum_cons]; omega
    | some q =>
      simp only [List.map_cons, List.sum_cons]
      rcases vac1_is ha with e | ⟨e, _⟩
      · rw [e]; omega
      · have := cutV_len a.2 seq
        rw [e]
        simp only
        omega
theorem allW_drop (cs : List CmM) (n : Nat) : (allW (cs.drop n)).length ≤ (allW cs).length ∧ ∀ w ∈ allW (cs.drop n), w ∈ allW cs := by
  have e : allW cs = allW (cs.take n) ++ allW (cs.drop n) := by
    unfold allW
    rw [← List.flatMap_append, List.take_append_drop]
  rw [e]
  exact ⟨by rw [List.length_append]; omega, fun w hw => List.mem_append_right _ hw⟩

theorem SG.vacuum {M : StM} {N : Nat} (h : SG M N) {n : Nat} (hn : n ≤ M.cms.length) : SG (M.vacuum n) N := by
  have hl : (M.vacuum n).last = M.last := by unfold StM.last StM.vacuum; simp only [List.length_drop]; omega
  refine ⟨vac_rise _ _ h.rise, fun p hp => ?_, fun p hp => ?_, ?_, ?_, fun w hw => h.key w ((allW_drop M.cms n).2 w hw), ?_⟩
  · obtain ⟨q, hq, e | ⟨e, e2⟩⟩ := vac_mem hp
    · rw [e]; exact h.some q hq
    · rw [e]; exact e2
  · rw [hl]
    obtain ⟨q, hq, e | ⟨e, e2⟩⟩ := vac_mem hp
    · rw [e]; exact h.up q hq
    · rw [e]
      exact ⟨Rise.drop (h.up q hq).1 _, fun v hv => (h.up q hq).2 v (List.mem_of_mem_drop hv)⟩
  · exact Nat.le_trans (vac_sum _ _ M.keys) h.ver
  · exact Nat.le_trans (allW_drop M.cms n).1 h.ws
  · show (M.cms.drop n).length ≤ N
    have := h.cms
    rw [List.length_drop]
    omega
theorem SG.chain {M : StM} {N : Nat} (h : SG M N) (key : ByteArray) : Rise (M.chain key) := by
  unfold StM.chain
  cases hl : lookK M.keys key with
  | none => exact fun i j _ hj => absurd hj (by simp)
  | some vs =>
    obtain ⟨p, hp, e⟩ := look_mem hl
    rw [Option.getD_some, ← e]
    exact (h.up p hp).1

/-- BEHIND VACUUM A STORE TELLS OF ALL KEYS WHAT IT TOLD -/
theorem vac_look {M : StM} {N : Nat} (h : SG M N) {n : Nat} (hn : n ≤ M.cms.length) {sq : Int} (h1 : ((M.low + n : Nat) : Int) ≤ sq) (h2 : sq ≤ (M.last : Int)) : ((M.vacuum n).look ⟨#[]⟩ sq ⟨#[]⟩).map kvW = (M.look ⟨#[]⟩ sq ⟨#[]⟩).map kvW := by
  have hl : (M.vacuum n).last = M.last := by unfold StM.last StM.vacuum; simp only [List.length_drop]; omega
  have t1 : M.tells sq = true := by
    unfold StM.tells
    rw [Bool.and_eq_true, decide_eq_true_eq, decide_eq_true_eq]
    omega
  have t2 : (M.vacuum n).tells sq = true := by
    unfold StM.tells
    rw [hl, Bool.and_eq_true, decide_eq_true_eq, decide_eq_true_eq]
    exact ⟨h1, h2⟩
  obtain ⟨a1, a2⟩ := look_all h.rise sq t1
  obtain ⟨b1, b2⟩ := look_all (h.vacuum hn).rise sq t2
  refine ext_rise b1 a1 fun key => ?_
  rw [a2, b2, vac_get h.rise h.chain hn key h1]
theorem key_vacuum {M : StM} {k : Nat} (h : ∀ p ∈ M.keys, p.1.size ≤ k) (n : Nat) : ∀ p ∈ (M.vacuum n).keys, p.1.size ≤ k := fun p hp => by
  obtain ⟨q, hq, e⟩ := vac_keys hp
  rw [e]
  exact h q hq

end Go.Proofs.Ytcebnoapgceodaa.sT
end

section
namespace Go.Proofs.Ytcebnoapgceodaa.sT
open Go.RowKit Go.Proofs.Ytcebnoapgceodaa.tC

set_option linter.unusedVariables false
set_option linter.unusedSimpArgs false

theorem putM_sum (g : List Ver → Nat) (g0 : g [] = 0) {ks : KL} (hr : RiseM ks) (key : ByteArray) (vs : List Ver) : ((putM ks key vs).map fun k => g k.2).sum + g ((lookK ks key).getD []) = (ks.map fun k => g k.2).sum + g vs := by
  obtain ⟨A, Y, C, e, hA, hC, hY⟩ := put_split hr key
  have hY1 : ∀ p ∈ Y, p.1 = key := fun p hp => by
    rcases hY with ⟨h, _⟩ | ⟨v, h, _⟩
    · rw [h] at hp; simp at hp
    · rw [h] at hp; rw [List.mem_singleton.1 hp]
  have e2 : putM ks key vs = A ++ (key, vs) :: C := by rw [e]; exact put_mid hA hC hY1 vs
  rw [e2]
  rcases hY with ⟨h, h2⟩ | ⟨v, h, h2⟩
  · rw [h2, e, h]
    simp [g0]
    omega
  · rw [h2, e, h]
    simp
    omega
/-- versions of some commits alone -/
def cntQ (q : Int → Bool) (vs : List Ver) : Nat := vs.countP fun v => q v.seq
theorem write_sum (q : Int → Bool) (seq : Int) : ∀ (ws : List Wr) {M : StM}, RiseM M.keys → ((M.write seq ws).keys.map fun k => cntQ q k.2).sum = (M.keys.map fun k => cntQ q k.2).sum + if q seq then ws.length else 0
  | [], M, _ => by show (M.keys.map _).sum = _; simp
  | w :: r, M, hr => by
    rw [write_cons, write_sum q seq r (rise_put1 hr w.key _)]
    have h := putM_sum (cntQ q) rfl hr w.key (M.chain w.key ++ [⟨seq, w.val, w.gone⟩])
    have e : cntQ q (M.chain w.key ++ [⟨seq, w.val, w.gone⟩]) = cntQ q (M.chain w.key) + if q seq then 1 else 0 := by
      unfold cntQ
      rw [List.countP_append, List.countP_cons, List.countP_nil]
      simp
    rw [e] at h
    have h2 : ((M.put1 w.key ⟨seq, w.val, w.gone⟩).keys.map fun k => cntQ q k.2).sum = (M.keys.map fun k => cntQ q k.2).sum + if q seq then 1 else 0 := by
      have : (lookK M.keys w.key).getD [] = M.chain w.key := rfl
      rw [this] at h
      show ((putM M.keys w.key _).map _).sum = _
      omega
    rw [h2, List.length_cons]
    cases q seq <;> simp
    omega
theorem made_sum (q : Int → Bool) (first : Nat) (base : List Wr) (cs : List CmM) : ((madeM first base cs).keys.map fun k => cntQ q k.2).sum = (if q first then base.length else 0) + (cs.map fun c => if q c.seq then c.ws.length else 0).sum := by
  refine snoc_ind (P := fun cs => ((madeM first base cs).keys.map fun k => cntQ q k.2).sum = (if q first then base.length else 0) + (cs.map fun c => if q c.seq then c.ws.length else 0).sum) ?_ (fun r c ih => ?_) cs
  · have := write_sum q (first : Int) base (M := StM.new first) List.Pairwise.nil
    show (((StM.new first).write first base).keys.map _).sum = _
    rw [this]
    simp [StM.new]
  · rw [madeM_snoc]
    unfold StM.commit
    rw [write_sum q c.seq c.ws (M := (madeM first base r).push ⟨c.seq, c.at_, c.ws⟩) (rise_made first base r).1]
    show ((madeM first base r).keys.map _).sum + _ = _
    rw [ih, List.map_append, List.sum_append]
    simp
    omega

theorem fm_len {α β : Type} (f : α → Option β) : ∀ l : List α, (l.filterMap f).length = (l.map fun x => if (f x).isSome then 1 else 0).sum
  | [] => rfl
  | a :: r => by
    rw [List.filterMap_cons, List.map_cons, List.sum_cons, ← fm_len f r]
    cases f a <;> simp
    omega
theorem vacK_len (f : ByteArray → Bool) (seq : Int) : ∀ ks : KL, ((vacK f seq ks).map fun k => k.2.length).sum = (ks.map fun k => (if f k.1 then cutV k.2 seq else k.2).length).sum
  | [] => rfl
  | a :: r => by
    have ih := vacK_len f seq r
    unfold vacK at ih ⊢
    rw [List.filterMap_cons, List.map_cons, List.sum_cons, ← ih]
    unfold vac1
    cases hf : f a.1 with
    | false => simp [hf]
    | true =>
      by_cases h0 : cutV a.2 seq = []
      · simp [hf, h0]
      · simp [hf, h0]
theorem cut_len {vs : List Ver} (h : Rise vs) (seq : Int) : (cutV vs seq).length = (if (atR vs (upN vs seq)).2 then 1 else 0) + cntQ (fun s => decide (seq < s)) vs := by
  have h1 := (up_pre h seq).1
  have e : vs.length = upN vs seq + cntQ (fun s => decide (seq < s)) vs := by
    unfold upN cntQ
    rw [List.length_eq_countP_add_countP (fun v : Ver => decide (v.seq ≤ seq))]
    congr 2
    funext v
    by_cases hv : v.seq ≤ seq
    · simp [hv]
    · simp [hv]; omega
  unfold cutV
  rw [List.length_drop]
  cases hr : upN vs seq with
  | zero => rw [firstC_zero, atR_zero]; simp; omega
  | succ m =>
    rw [firstC_at vs m (by omega), atR_at vs m (by omega)]
    cases hg : (vs[m]'(by omega)).gone with
    | true => simp; omega
    | false => simp; omega

/-- of a key that none of the commits let go of wrote -/
theorem uncut_len {first : Nat} {base : List Wr} {cs : List CmM} (hb1 : ∀ w ∈ base, w.gone = false) (hbr : RiseW base) (hcs : ∀ z (h : z < cs.length), (cs[z]).seq = (first : Int) + 1 + z) {n : Nat} (hn : n ≤ cs.length) {key : ByteArray} (hf : ((allW (cs.take n)).any fun w => decide (w.key = key)) = false) :
    ((madeM first base cs).chain key).length = (if (atR ((madeM first base cs).chain key) (upN ((madeM first base cs).chain key) ((first + n : Nat) : Int))).2 then 1 else 0) + cntQ (fun s => decide (((first + n : Nat) : Int) < s)) ((madeM first base cs).chain key) := by
  have hch := (rise_made first base cs).2 key
  have e : (cs.flatMap fun c => verOf c.seq c.ws key) = (cs.drop n).flatMap fun c => verOf c.seq c.ws key := by
    have e1 : (cs.flatMap fun c => verOf c.seq c.ws key) = ((cs.take n).flatMap fun c => verOf c.seq c.ws key) ++ (cs.drop n).flatMap fun c => verOf c.seq c.ws key := by
      rw [← List.flatMap_append, List.take_append_drop]
    rw [e1]
    have e2 : ((cs.take n).flatMap fun c => verOf c.seq c.ws key) = [] := by
      rw [List.flatMap_eq_nil_iff]
      intro c hc
      unfold verOf
      rw [List.map_eq_nil_iff, List.filter_eq_nil_iff]
      intro w hw hk
      rw [List.any_eq_false] at hf
      exact hf w (by unfold allW; exact List.mem_flatMap.2 ⟨c, hc, hw⟩) hk
    rw [e2, List.nil_append]
  obtain ⟨X, hX⟩ : ∃ X, X = verOf (first : Int) base key := ⟨_, rfl⟩
  obtain ⟨Y, hY⟩ : ∃ Y, Y = (cs.drop n).flatMap fun c => verOf c.seq c.ws key := ⟨_, rfl⟩
  rw [e, ← hX, ← hY] at hch
  have hXs : ∀ v ∈ X, v.seq ≤ ((first + n : Nat) : Int) := fun v hv => by
    rw [hX] at hv
    rw [ver_seq hv]
    omega
  have hYs : ∀ v ∈ Y, ((first + n : Nat) : Int) < v.seq := fun v hv => by
    rw [hY] at hv
    obtain ⟨c, hc, hv⟩ := List.mem_flatMap.1 hv
    obtain ⟨i, hi, rfl⟩ := List.getElem_of_mem hc
    rw [List.length_drop] at hi
    rw [ver_seq hv, List.getElem_drop, hcs (n + i) (by omega)]
    omega
  have hX1 : X = [] ∨ ∃ v : Ver, X = [v] ∧ v.gone = false := by
    rw [hX]
    unfold verOf
    cases hfl : base.filter fun w => decide (w.key = key) with
    | nil => exact .inl rfl
    | cons a r => cases r with
      | nil =>
        refine .inr ⟨_, rfl, ?_⟩
        have : a ∈ base.filter fun w => decide (w.key = key) := by rw [hfl]; exact List.mem_cons_self
        exact hb1 a (List.mem_filter.1 this).1
      | cons b q =>
        have h1 : RiseW (base.filter fun w => decide (w.key = key)) := List.Pairwise.sublist List.filter_sublist hbr
        rw [hfl] at h1
        have h2 := (List.pairwise_cons.1 h1).1 b List.mem_cons_self
        have ha : a ∈ base.filter fun w => decide (w.key = key) := by rw [hfl]; exact List.mem_cons_self
        have hb : b ∈ base.filter fun w => decide (w.key = key) := by rw [hfl]; exact List.mem_cons_of_mem _ List.mem_cons_self
        have ka : a.key = key := by simpa using (List.mem_filter.1 ha).2
        have kb : b.key = key := by simpa using (List.mem_filter.1 hb).2
        exact absurd (ka.trans kb.symm) (lt_ne h2)
  have hc : cntQ (fun s => decide (((first + n : Nat) : Int) < s)) (X ++ Y) = Y.length := by
    unfold cntQ
    rw [List.countP_append, List.countP_eq_zero.2 fun v hv => by have := hXs v hv; simp only [decide_eq_true_eq]; omega, List.countP_eq_length.2 fun v hv => decide_eq_true (hYs v hv), Nat.zero_add]
  rw [hch, upN_app hXs hYs, atR_app, hc, List.length_append]
  rcases hX1 with h | ⟨v, h, hg⟩
  · rw [h]; simp
  · rw [h]; simp [hg]

theorem sum_same {α : Type} (f g : α → Nat) : ∀ l : List α, (∀ x ∈ l, f x = g x) → (l.map f).sum = (l.map g).sum
  | [], _ => rfl
  | a :: r, h => by rw [List.map_cons, List.map_cons, List.sum_cons, List.sum_cons, h a List.mem_cons_self, sum_same f g r fun x hx => h x (List.mem_cons_of_mem _ hx)]
theorem sum_add {α : Type} (f g : α → Nat) : ∀ l : List α, (l.map fun x => f x + g x).sum = (l.map f).sum + (l.map g).sum
  | [] => rfl
  | a :: r => by simp only [List.map_cons, List.sum_cons, sum_add f g r]; omega

/-- HOW MANY VERSIONS THERE ARE BEHIND VACUUM -/
theorem vac_versions {first : Nat} {base : List Wr} {cs : List CmM} {N : Nat} (hg : SG (madeM first base cs) N) (hb1 : ∀ w ∈ base, w.gone = false) (hbr : RiseW base) (hcs : ∀ z (h : z < cs.length), (cs[z]).seq = (first : Int) + 1 + z) {n : Nat} (hn : n ≤ cs.length) :
    ((madeM first base cs).vacuum n).versions = ((madeM first base cs).look ⟨#[]⟩ ((first + n : Nat) : Int) ⟨#[]⟩).length + ((cs.drop n).map fun c => c.ws.length).sum := by
  obtain ⟨a1, a2⟩ := madeM_low first base cs
  have hr := hg.rise
  have ht : (madeM first base cs).tells ((first + n : Nat) : Int) = true := by
    unfold StM.tells StM.last
    rw [a1, a2, Bool.and_eq_true, decide_eq_true_eq, decide_eq_true_eq]
    omega
  have e0 : ((madeM first base cs).vacuum n).versions = ((madeM first base cs).keys.map fun k => (if ((allW (cs.take n)).any fun w => decide (w.key = k.1)) then cutV k.2 ((first + n : Nat) : Int) else k.2).length).sum := by
    unfold StM.versions StM.vacuum
    simp only
    rw [a1, a2]
    exact vacK_len _ _ _
  have e1 : (madeM first base cs).look ⟨#[]⟩ ((first + n : Nat) : Int) ⟨#[]⟩ = (madeM first base cs).keys.filterMap (valM ((first + n : Nat) : Int)) := by
    unfold StM.look StM.seen
    rw [ht, rangeM_all]
    rfl
  have e2 := made_sum (fun s => decide (((first + n : Nat) : Int) < s)) first base cs
  have e3 : (if decide (((first + n : Nat) : Int) < (first : Int)) = true then base.length else 0) = 0 := by
    rw [decide_eq_false (by omega)]; rfl
  have e4 : (cs.map fun c => if decide (((first + n : Nat) : Int) < c.seq) = true then c.ws.length else 0).sum = ((cs.drop n).map fun c => c.ws.length).sum := by
    have h1 : cs = cs.take n ++ cs.drop n := by rw [List.take_append_drop]
    have h2 : (cs.map fun c => if decide (((first + n : Nat) : Int) < c.seq) = true then c.ws.length else 0).sum = ((cs.take n).map fun c => if decide (((first + n : Nat) : Int) < c.seq) = true then c.ws.length else 0).sum + ((cs.drop n).map fun c => if decide (((first + n : Nat) : Int) < c.seq) = true then c.ws.length else 0).sum := by
      rw [← List.sum_append, ← List.map_append, List.take_append_drop]
    rw [h2, sum_same _ (fun _ => 0) (cs.take n) fun c hc => by
      obtain ⟨i, hi, rfl⟩ := List.getElem_of_mem hc
      rw [List.length_take] at hi
      rw [List.getElem_take, hcs i (by omega), decide_eq_false (by omega)]
      rfl, sum_same _ (fun c => c.ws.length) (cs.drop n) fun c hc => by
      obtain ⟨i, hi, rfl⟩ := List.getElem_of_mem hc
      rw [List.length_drop] at hi
      rw [List.getElem_drop, hcs (n + i) (by omega), decide_eq_true (by omega)]
      rfl]
    have hz : ∀ l : List CmM, (l.map fun _ => 0).sum = 0 := fun l => by induction l with
      | nil => rfl
      | cons a r ih => rw [List.map_cons, List.sum_cons, ih]
    rw [hz, Nat.zero_add]
  rw [e3, e4, Nat.zero_add] at e2
  rw [e0, e1, fm_len, ← e2, ← sum_add]
  refine sum_same _ _ _ fun p hp => ?_
  have hlk : (madeM first base cs).chain p.1 = p.2 := by unfold StM.chain; rw [look_in hr (show (p.1, p.2) ∈ (madeM first base cs).keys from hp)]; rfl
  have hv : (if (valM ((first + n : Nat) : Int) p).isSome = true then 1 else 0) = if (atR p.2 (upN p.2 ((first + n : Nat) : Int))).2 = true then 1 else 0 := by
    unfold valM
    split <;> simp_all
  rw [hv]
  split
  · exact cut_len (hg.up p hp).1 _
  · rename_i hf
    have := uncut_len hb1 hbr hcs hn (key := p.1) (by simpa using hf)
    rw [hlk] at this
    exact this

end Go.Proofs.Ytcebnoapgceodaa.sT
end

section
namespace Go.Proofs.Ytcebnoapgceodaa.sT
open Go.RowKit Go.Proofs.Ytcebnoapgceodaa.tC Go.Proofs.Ytcebnoapgceodaa.storeFrees

set_option linter.unusedVariables false
set_option linter.unusedSimpArgs false

/-- a law's base -/
def baseB (bs : List Wr) : List Wr := thereL (someW bs)
theorem baseB_rise (bs : List Wr) : RiseW (baseB bs) := List.Pairwise.filter _ (sortW_rise _)
theorem baseB_len (bs : List Wr) : (baseB bs).length ≤ 12 := Nat.le_trans (there_len _) (someW_len bs)
theorem baseB_gone (bs : List Wr) : ∀ w ∈ baseB bs, w.gone = false := there_not
theorem baseB_ok (bs : List Wr) : ∀ w ∈ baseB bs, isR w = true ∧ w.key.size ≤ 20 ∧ w.val.size ≤ 40 := fun w hw => someW_ok bs w (there_mem w hw)
theorem newOK_of {first : Int} {B : List Wr} (h0 : 0 ≤ first) (h1 : first ≤ 1099511627776) (hr : RiseW B) (hok : ∀ x ∈ B, isR x = true) (hl : B.length ≤ 200) (hg : ∀ w ∈ B, w.gone = false) : newOK first B = true := by
  have hR := rightL_of hr hok hl
  unfold rightL at hR
  rw [Bool.and_eq_true] at hR
  unfold newOK
  rw [hR.2, decide_eq_true h0, decide_eq_true h1]
  have : B.any Wr.gone = false := by
    rw [List.any_eq_false]
    intro w hw
    rw [hg w hw]
    simp
  rw [this]
  rfl
theorem baseB_new {first : Nat} (h1 : first ≤ 1000000) (bs : List Wr) : newOK first (baseB bs) = true := newOK_of (by omega) (by omega) (baseB_rise bs) (fun x hx => (baseB_ok bs x hx).1) (by have := baseB_len bs; omega) (baseB_gone bs)

theorem pre_takes {first : Nat} (h1 : first ≤ 1000000) (bs : List Wr) (wss : List (List Wr)) (hl : wss.length ≤ 30) : Takes first (baseB bs) (listC ((first : Int) + 1) wss) := takes_list (baseB_new h1 bs) h1 wss (by omega)
theorem pre_sg {first : Nat} (h1 : first ≤ 1000000) (bs : List Wr) (wss : List (List Wr)) (hl : wss.length ≤ 30) : SG (madeM first (baseB bs) (listC ((first : Int) + 1) wss)) 500 := by
  have := SG.made (pre_takes h1 bs wss hl) 12 (listC_12 _ wss) wss.length (by rw [listC_len]; exact Nat.le_refl _)
  rw [← listC_len ((first : Int) + 1) wss, List.take_length, listC_len] at this
  exact this.mono (by have := baseB_len bs; omega)

theorem wrs_at_row {B0 : Nat} {W : World} {a : Option Addr} {c : Nat} {ws : List Wr} (h : RowK 48 3 B0 W (.slice a ws.length c) ws.length (ws.flatMap wrcells)) : WrsIs W a ws := by
  obtain ⟨wa, wc, e3, hw⟩ := wrs_of_row (B := fun _ => True) (v := .slice a ws.length c) (ws := ws) ⟨h.keep fun q hq => ⟨rfl, Nat.zero_le _⟩, fun _ _ => trivial⟩
  injection e3 with e4
  subst e4
  exact hw

theorem pre_some {W : World} {a : Option Addr} {len cap : Nat} {bs : List Wr} (h : WrsCame W a len cap bs) (hs : SizedW bs) : ∀ W', Below W.heap.size W W' → Calls Try.prog 14 #[.slice a len cap] W' fun e W2 => ∃ ya yl yc, e = .returned (.slice ya yl yc) ∧ yl = (someW bs).length ∧ Hid (WrsIs W2 ya (someW bs) ∧ Below W'.heap.size W' W2) := fun W' hb => by
  obtain ⟨hl, hc1, hc2, hw, _⟩ := h
  refine (some_any (cap := cap) (hw.below hb) hl (by omega) hs).mono ?_
  rintro e W2 ⟨ya, yc, rfl, k1, k2⟩
  exact ⟨ya, _, yc, rfl, rfl, Lib.hid ⟨wrs_at_row k1, k2⟩⟩
theorem pre_there (bs : List Wr) : ∀ W' ya yl yc, yl = (someW bs).length → WrsIs W' ya (someW bs) → Calls Try.prog 13 #[.slice ya yl yc] W' fun e W2 => ∃ ba bl bc, e = .returned (.slice ba bl bc) ∧ bl = (baseB bs).length ∧ Hid (WrsIs W2 ba (baseB bs) ∧ Below W'.heap.size W' W2) := fun W' ya yl yc hy h => by
  refine (there_any (cap := yc) h hy.symm (by have := someW_len bs; omega)).mono ?_
  rintro e W2 ⟨a, c, rfl, k1, k2⟩
  exact ⟨a, _, c, rfl, rfl, Lib.hid ⟨wrs_at_row k1, k2⟩⟩
theorem pre_list {W : World} {a : Option Addr} {len : Nat} (cap : Nat) {wss : List (List Wr)} (h : WwsCame W a len wss) (hle : len ≤ 30) (first : Nat) (h1 : first ≤ 900000) : ∀ W', Below W.heap.size W W' → Calls Try.prog 15 #[.int .i64 ((first : Int) + 1), .slice a len cap] W' fun e W2 => ∃ la lc, e = .returned (.slice la len lc) ∧ Hid (CIs W2 la (listC ((first : Int) + 1) wss) ∧ LiesAt la len lc ∧ Below W'.heap.size W' W2) := fun W' hb => by
  obtain rfl := h.1
  refine (list_any (cap := cap) ((first : Int) + 1) ⟨rfl, h.2.1.below hb, h.2.2⟩ (by omega) (by omega) (by omega)).mono ?_
  rintro e W2 ⟨la, lc, rfl, k1, k2⟩
  rw [← listC_len ((first : Int) + 1) wss] at k1
  exact ⟨la, lc, rfl, Lib.hid ⟨k1.is, by have := lies_own k1; rwa [listC_len] at this, k2⟩⟩
/-- a store as made makes it, apart from all else -/
theorem pre_made {first : Nat} (h1 : first ≤ 1000000) (bs : List Wr) (wss : List (List Wr)) (hl : wss.length ≤ 30) : ∀ W' ba bl bc la lc, bl = (baseB bs).length → WrsIs W' ba (baseB bs) → CIs W' la (listC ((first : Int) + 1) wss) → Calls Try.prog 16 #[.int .i64 (first : Int), .slice ba bl bc, .slice la wss.length lc] W' fun e W2 => ∃ s, e = .returned (.tuple #[.pointer (some ⟨s, 0, none⟩), .bool true]) ∧ Hid (Sep W'.heap.size (fun _ => False) W2 s (madeM first (baseB bs) (listC ((first : Int) + 1) wss)) ∧ Below W'.heap.size W' W2) := fun W' ba bl bc la lc hbl hb hc => by
  exact made_any (bc := bc) (cap := lc) first hb hbl.symm hc (listC_len _ wss) (pre_takes h1 bs wss hl) (listC_12 _ wss) (by rw [listC_len]; have := baseB_len bs; omega) (by omega)

end Go.Proofs.Ytcebnoapgceodaa.sT
end
