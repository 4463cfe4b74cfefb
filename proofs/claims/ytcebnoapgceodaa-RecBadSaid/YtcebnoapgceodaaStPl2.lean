/-
  mailbaglaw09, plainly: Some, List, made: which commits they are, and that a store takes them.
-/
import Derived.Test.YtcebnoapgceodaaStSoW
namespace Go.Proofs.Ytcebnoapgceodaa.sT
open Go.RowKit Go.Proofs.Ytcebnoapgceodaa.tC

set_option linter.unusedVariables false
set_option linter.unusedSimpArgs false

/-- the first n bytes -/
def cutB (s : ByteArray) (n : Nat) : ByteArray := if n < s.size then s.extract 0 n else s
def some1 (x : Wr) : Wr := ⟨cutB (⟨#[107]⟩ ++ x.key) 20, cutB (if x.gone then ⟨#[]⟩ else x.val) 40, x.gone⟩
def someW (ws : List Wr) : List Wr := sortW ((ws.take 12).map some1)
theorem cutB_size (s : ByteArray) (n : Nat) : (cutB s n).size ≤ n := by
  unfold cutB
  split
  · rw [ByteArray.size_extract]; omega
  · omega
theorem some1_ok (x : Wr) : isR (some1 x) = true ∧ (some1 x).key.size ≤ 20 ∧ (some1 x).val.size ≤ 40 := by
  have h1 : (some1 x).key.size ≤ 20 := cutB_size _ _
  have h2 : (some1 x).val.size ≤ 40 := cutB_size _ _
  refine ⟨?_, h1, h2⟩
  have h3 : 0 < (some1 x).key.size := by
    show 0 < (cutB _ 20).size
    unfold cutB
    split
    · rename_i h
      rw [ByteArray.size_extract]
      omega
    · rw [ByteArray.size_append]
      have : (⟨#[107]⟩ : ByteArray).size = 1 := rfl
      omega
  have h4 : (some1 x).key.toList.isEmpty = false := by
    rw [List.isEmpty_eq_false_iff]
    intro e
    have := congrArg List.length e
    rw [Lib.toList_data] at this
    simp only [Array.length_toList, List.length_nil] at this
    have e2 : (some1 x).key.data.size = (some1 x).key.size := rfl
    omega
  have h5 : (!((some1 x).gone && !(some1 x).val.toList.isEmpty)) = true := by
    cases hg : x.gone with
    | false => show (!(x.gone && _)) = true; rw [hg]; rfl
    | true =>
      have : (some1 x).val = ⟨#[]⟩ := by
        show cutB (if x.gone then _ else _) 40 = _
        rw [hg]
        rfl
      rw [this, Lib.toList_data]
      show (!(x.gone && _)) = true
      rw [hg]
      rfl
  unfold isR
  rw [h4, h5, decide_eq_true (show (some1 x).key.size ≤ 400 by omega), decide_eq_true (show (some1 x).val.size ≤ 4096 by omega)]
  rfl

theorem okR_of {ws : List Wr} (hr : RiseW ws) (hok : ∀ x ∈ ws, isR x = true) (i : Nat) : okR ws i = true := by
  unfold okR
  cases h : ws[i]? with
  | none => rfl
  | some x =>
    obtain ⟨hi, hx⟩ := List.getElem?_eq_some_iff.1 h
    simp only [hok x (by rw [← hx]; exact List.getElem_mem hi), Bool.true_and]
    cases i with
    | zero => rfl
    | succ j =>
      simp only
      rw [List.getElem?_eq_getElem (show j < ws.length by omega)]
      simp only
      have hlt : Lt (ws[j]).key x.key := by
        rw [← hx]
        exact List.pairwise_iff_getElem.1 hr j (j + 1) (by omega) hi (by omega)
      unfold upR
      have h1 : Op.bytesLess x.key.toList (ws[j]).key.toList = false := by
        rw [Lib.toList_data, Lib.toList_data]
        refine Bool.eq_false_iff.2 fun h2 => not_lt_of hlt ?_
        rw [bytesLess_eq] at h2
        exact of_decide_eq_true h2
      have h2 : (x.key.toList == (ws[j]).key.toList) = false := by
        rw [Lib.toList_data, Lib.toList_data]
        refine Bool.eq_false_iff.2 fun h3 => lt_ne hlt ?_
        exact ((key8 _ _).1 (eq_of_beq h3)).symm
      rw [h1, h2]
      rfl
theorem rightL_of {ws : List Wr} (hr : RiseW ws) (hok : ∀ x ∈ ws, isR x = true) (hl : ws.length ≤ 200) : rightL ws = true := by
  unfold rightL rightW
  rw [decide_eq_true hl, Bool.true_and, List.all_eq_true]
  exact fun i _ => okR_of hr hok i
theorem someW_len (ws : List Wr) : (someW ws).length ≤ 12 := by
  unfold someW
  have h1 := sortW_len ((ws.take 12).map some1)
  rw [List.length_map, List.length_take] at h1
  omega
theorem someW_ok (ws : List Wr) : ∀ x ∈ someW ws, isR x = true ∧ x.key.size ≤ 20 ∧ x.val.size ≤ 40 := fun x hx => by
  obtain ⟨y, _, rfl⟩ := List.mem_map.1 (sortW_mem x hx)
  exact some1_ok y
theorem someW_right (ws : List Wr) : rightL (someW ws) = true := rightL_of (sortW_rise _) (fun x hx => (someW_ok ws x hx).1) (by have := someW_len ws; omega)

/-- List, plainly -/
def listC (first : Int) (wss : List (List Wr)) : List CmM := wss.mapIdx fun i ws => ⟨first + i, 10 * i, someW ws⟩
theorem listC_len (first : Int) (wss : List (List Wr)) : (listC first wss).length = wss.length := by unfold listC; simp
theorem listC_snoc (first : Int) (wss : List (List Wr)) (ws : List Wr) : listC first (wss ++ [ws]) = listC first wss ++ [⟨first + wss.length, 10 * wss.length, someW ws⟩] := by
  unfold listC
  rw [List.mapIdx_concat]
theorem listC_get (first : Int) (wss : List (List Wr)) (i : Nat) (h : i < wss.length) : (listC first wss)[i]? = some ⟨first + i, 10 * i, someW wss[i]⟩ := by
  unfold listC
  rw [List.getElem?_mapIdx, List.getElem?_eq_getElem h]
  rfl

/-- a store behind commits -/
def madeM (first : Nat) (base : List Wr) (cs : List CmM) : StM := cs.foldl (fun M c => M.commit c.seq c.at_ c.ws) ((StM.new first).write first base)
theorem madeM_snoc (first : Nat) (base : List Wr) (cs : List CmM) (c : CmM) : madeM first base (cs ++ [c]) = (madeM first base cs).commit c.seq c.at_ c.ws := by unfold madeM; rw [List.foldl_append]; rfl
theorem madeM_low (first : Nat) (base : List Wr) (cs : List CmM) : (madeM first base cs).low = first ∧ (madeM first base cs).cms = cs := by
  refine snoc_ind (P := fun cs => (madeM first base cs).low = first ∧ (madeM first base cs).cms = cs) ?_ (fun r c ih => ?_) cs
  · obtain ⟨h1, h2⟩ := write_low base (StM.new first) (first : Int)
    exact ⟨h1, h2⟩
  · rw [madeM_snoc]
    obtain ⟨h1, h2⟩ := commit_low (madeM first base r) c.seq c.at_ c.ws
    exact ⟨h1.trans ih.1, by rw [h2, ih.2]⟩

/-- commits that a store takes, one behind the other -/
def Takes (first : Nat) (base : List Wr) (cs : List CmM) : Prop := newOK first base = true ∧ ∀ z (h : z < cs.length), (madeM first base (cs.take z)).fits (cs[z]).seq (cs[z]).at_ (cs[z]).ws = true
theorem takes_list {first : Nat} {base : List Wr} (h0 : newOK first base = true) (h1 : first ≤ 1000000) (wss : List (List Wr)) (hl : wss.length ≤ 1000000) : Takes first base (listC ((first : Int) + 1) wss) := by
  refine ⟨h0, fun z hz => ?_⟩
  rw [listC_len] at hz
  have hg := listC_get ((first : Int) + 1) wss z hz
  have hz2 : z < (listC ((first : Int) + 1) wss).length := by rw [listC_len]; exact hz
  rw [List.getElem?_eq_getElem hz2] at hg
  have e := Option.some.inj hg
  rw [e]
  obtain ⟨k1, k2⟩ := madeM_low first base ((listC ((first : Int) + 1) wss).take z)
  have hlast : ((madeM first base ((listC ((first : Int) + 1) wss).take z)).last : Int) = (first : Int) + z := by
    unfold StM.last
    rw [k1, k2, List.length_take, listC_len]
    omega
  have hleast : (madeM first base ((listC ((first : Int) + 1) wss).take z)).least ≤ 10 * (z : Int) := by
    unfold StM.least
    rw [k2]
    cases z with
    | zero => simp
    | succ j =>
      have hj := listC_get ((first : Int) + 1) wss j (by omega)
      have hj2 : j < (listC ((first : Int) + 1) wss).length := by rw [listC_len]; omega
      rw [List.getElem?_eq_getElem hj2] at hj
      rw [List.take_succ_eq_append_getElem hj2, List.getLast?_concat, Option.some.inj hj]
      simp only
      omega
  unfold StM.fits
  simp only
  rw [hlast, someW_right, decide_eq_true (show (first : Int) + 1 + (z : Int) = (first : Int) + z + 1 by omega), decide_eq_true (show (first : Int) + 1 + (z : Int) ≤ 1099511627776 by omega), decide_eq_true hleast, decide_eq_true (show 10 * (z : Int) ≤ 1099511627776 by omega)]
  rfl
theorem SG.made {first : Nat} {base : List Wr} {cs : List CmM} (h : Takes first base cs) (N : Nat) (hN : ∀ c ∈ cs, c.ws.length ≤ N) : ∀ z, z ≤ cs.length → SG (madeM first base (cs.take z)) (base.length + z * (N + 1))
  | 0, _ => by simpa [madeM] using SG.base base
  | z + 1, hz => by
    have hz2 : z < cs.length := by omega
    have ih := SG.made h N hN z (by omega)
    rw [List.take_succ_eq_append_getElem hz2, madeM_snoc]
    refine (ih.commit (h.2 z hz2)).mono ?_
    have := hN _ (List.getElem_mem hz2)
    rw [Nat.add_mul]
    omega

end Go.Proofs.Ytcebnoapgceodaa.sT
