/-
  store, plainly: the versions of a key are what the commits wrote of it; whether nobody wrote a key behind a commit.
-/
import Derived.Test.YtcebnoapgceodaaStSi
namespace Go.Proofs.Ytcebnoapgceodaa.sT
open Go.RowKit Go.Proofs.Ytcebnoapgceodaa.tC

set_option linter.unusedVariables false
set_option linter.unusedSimpArgs false

/-- did nobody write a key behind a commit? -/
def StM.freeAt (M : StM) (seq : Int) (w : Wr) : Bool := !((lookK M.keys w.key).isSome && decide (seq < lastI (M.chain w.key)))

/-- the versions that writes are of a key -/
def verOf (seq : Int) (ws : List Wr) (k : ByteArray) : List Ver := (ws.filter fun w => decide (w.key = k)).map fun w => ⟨seq, w.val, w.gone⟩
theorem chain_put1 {M : StM} (hr : RiseM M.keys) (key : ByteArray) (x : Ver) (k : ByteArray) : (M.put1 key x).chain k = if key = k then M.chain k ++ [x] else M.chain k := by
  have h := (putM_split hr key (M.chain key ++ [x])).2.1 k
  unfold StM.put1 StM.chain
  simp only
  unfold StM.chain at h
  rw [h]
  by_cases e : key = k
  · subst e; simp
  · simp [e]
theorem rise_put1 {M : StM} (hr : RiseM M.keys) (key : ByteArray) (x : Ver) : RiseM (M.put1 key x).keys := (putM_split hr key (M.chain key ++ [x])).1
theorem some_put1 {M : StM} (hr : RiseM M.keys) (h : ∀ p ∈ M.keys, p.2 ≠ []) (key : ByteArray) (x : Ver) : ∀ p ∈ (M.put1 key x).keys, p.2 ≠ [] := fun p hp => by
  rcases (putM_split hr key (M.chain key ++ [x])).2.2.1 p hp with rfl | hp
  · simp
  · exact h p hp
theorem rise_write : ∀ (ws : List Wr) {M : StM} (seq : Int), RiseM M.keys → RiseM (M.write seq ws).keys ∧ ∀ k, (M.write seq ws).chain k = M.chain k ++ verOf seq ws k
  | [], M, seq, h => ⟨h, fun k => by show M.chain k = _; simp [verOf]⟩
  | w :: r, M, seq, h => by
    obtain ⟨h1, h2⟩ := rise_write r seq (rise_put1 h w.key ⟨seq, w.val, w.gone⟩)
    rw [write_cons]
    refine ⟨h1, fun k => ?_⟩
    rw [h2, chain_put1 h]
    unfold verOf
    by_cases e : w.key = k
    · rw [if_pos e, List.filter_cons_of_pos (by simpa using e), List.append_assoc]; rfl
    · rw [if_neg e, List.filter_cons_of_neg (by simpa using e)]
theorem rise_made (first : Nat) (base : List Wr) (cs : List CmM) : RiseM (madeM first base cs).keys ∧ ∀ k, (madeM first base cs).chain k = verOf first base k ++ cs.flatMap fun c => verOf c.seq c.ws k := by
  refine snoc_ind (P := fun cs => RiseM (madeM first base cs).keys ∧ ∀ k, (madeM first base cs).chain k = verOf first base k ++ cs.flatMap fun c => verOf c.seq c.ws k) ?_ (fun r c ih => ?_) cs
  · obtain ⟨h1, h2⟩ := rise_write base (M := StM.new first) (first : Int) List.Pairwise.nil
    refine ⟨h1, fun k => ?_⟩
    rw [show madeM first base [] = (StM.new first).write first base from rfl, h2]
    simp [StM.chain, StM.new, lookK]
  · rw [madeM_snoc]
    obtain ⟨h1, h2⟩ := rise_write c.ws (M := (madeM first base r).push ⟨c.seq, c.at_, c.ws⟩) c.seq ih.1
    refine ⟨h1, fun k => ?_⟩
    have : ((madeM first base r).push ⟨c.seq, c.at_, c.ws⟩).chain k = (madeM first base r).chain k := rfl
    unfold StM.commit
    rw [h2, this, ih.2 k]
    simp [List.append_assoc]

theorem lastI_lt {vs : List Ver} (h : Rise vs) (k : Int) (hk : -1 ≤ k) : decide (k < lastI vs) = vs.any fun v => decide (k < v.seq) := by
  by_cases h0 : vs = []
  · subst h0
    rw [lastI_nil]
    simp
    omega
  · have hp := List.length_pos_iff.2 h0
    rw [lastI_some vs hp]
    by_cases hk2 : k < (vs[vs.length - 1]).seq
    · rw [decide_eq_true hk2]
      exact (List.any_eq_true.2 ⟨vs[vs.length - 1], List.getElem_mem (l := vs) (n := vs.length - 1) (by omega), decide_eq_true hk2⟩).symm
    · rw [decide_eq_false hk2]
      refine (List.any_eq_false.2 fun v hv => ?_).symm
      obtain ⟨i, hi, rfl⟩ := List.getElem_of_mem hv
      have := h i (vs.length - 1) (by omega) (by omega)
      simp only [decide_eq_true_eq]
      omega
/-- whether a key is free, by the versions of it -/
theorem freeAt_any {M : StM} {N : Nat} (hg : SG M N) (k : Int) (hk : -1 ≤ k) (w : Wr) : M.freeAt k w = !(M.chain w.key).any fun v => decide (k < v.seq) := by
  have hri : Rise (M.chain w.key) := by
    unfold StM.chain
    cases hl : lookK M.keys w.key with
    | none => exact fun i j _ hj => absurd hj (by simp)
    | some vs =>
      obtain ⟨p, hp, e⟩ := look_mem hl
      rw [Option.getD_some, ← e]
      exact (hg.up p hp).1
  unfold StM.freeAt
  rw [lastI_lt hri k hk]
  cases hl : lookK M.keys w.key with
  | none =>
    have : M.chain w.key = [] := by unfold StM.chain; rw [hl]; rfl
    rw [this]; rfl
  | some vs => simp

/-- writes of unlike keys -/
def apartW (xs ys : List Wr) : Bool := xs.all fun x => ys.all fun y => decide (x.key ≠ y.key)
def freeP (cs : List CmM) (ys : List Wr) : Bool := cs.all fun c => apartW c.ws ys
theorem all_free {wss : List (List Wr)} {N : Nat} (hg : SG (madeM 0 [] (listC 1 wss)) N) (k : Nat) (ys : List Wr) : ys.all ((madeM 0 [] (listC 1 wss)).freeAt (k : Int)) = freeP ((listC 1 wss).drop k) ys := by
  rw [Bool.eq_iff_iff, List.all_eq_true]
  unfold freeP apartW
  simp only [List.all_eq_true, decide_eq_true_eq]
  have hch := (rise_made 0 [] (listC 1 wss)).2
  constructor
  · intro h c hc x hx y hy e
    have h1 := h y hy
    rw [freeAt_any hg k (by omega), Bool.not_eq_true', List.any_eq_false] at h1
    obtain ⟨i, hi, hci⟩ := List.getElem_of_mem hc
    rw [List.length_drop, listC_len] at hi
    rw [List.getElem_drop] at hci
    have hgt := listC_get 1 wss (k + i) (by omega)
    rw [List.getElem?_eq_getElem (by rw [listC_len]; omega)] at hgt
    have hce : c = ⟨1 + ((k + i : Nat) : Int), 10 * ((k + i : Nat) : Int), someW wss[k + i]⟩ := by rw [← hci]; exact Option.some.inj hgt
    have hmem : (⟨c.seq, x.val, x.gone⟩ : Ver) ∈ (madeM 0 [] (listC 1 wss)).chain y.key := by
      rw [hch]
      refine List.mem_append.2 (.inr (List.mem_flatMap.2 ⟨c, ?_, ?_⟩))
      · rw [← hci]; exact List.getElem_mem _
      · unfold verOf
        exact List.mem_map.2 ⟨x, List.mem_filter.2 ⟨hx, by simpa using e⟩, rfl⟩
    have := h1 _ hmem
    simp only [decide_eq_true_eq] at this
    rw [hce] at this
    simp only at this
    omega
  · intro h y hy
    rw [freeAt_any hg k (by omega), Bool.not_eq_true', List.any_eq_false]
    intro v hv
    rw [hch] at hv
    simp only [decide_eq_true_eq]
    intro hlt
    rcases List.mem_append.1 hv with hv | hv
    · simp [verOf] at hv
    · obtain ⟨c, hc, hv⟩ := List.mem_flatMap.1 hv
      obtain ⟨i, hi, hci⟩ := List.getElem_of_mem hc
      rw [listC_len] at hi
      have hgt := listC_get 1 wss i hi
      rw [List.getElem?_eq_getElem (by rw [listC_len]; omega)] at hgt
      have hce : c = ⟨1 + (i : Int), 10 * (i : Int), someW wss[i]⟩ := by rw [← hci]; exact Option.some.inj hgt
      unfold verOf at hv
      obtain ⟨x, hx, rfl⟩ := List.mem_map.1 hv
      obtain ⟨hx1, hx2⟩ := List.mem_filter.1 hx
      rw [hce] at hlt
      simp only at hlt
      refine h c ?_ x hx1 y hy (by simpa using hx2)
      rw [List.mem_iff_getElem]
      refine ⟨i - k, by rw [List.length_drop, listC_len]; omega, ?_⟩
      rw [List.getElem_drop]
      have : k + (i - k) = i := by omega
      simp only [this]
      exact hci

end Go.Proofs.Ytcebnoapgceodaa.sT
