/-
  DiskCrashes, plainly, and beside a disk and a model.
-/
import Derived.Test.YtkeopkhbcmeplaaDActs
namespace Go.Proofs.Ytkeopkhbcmeplaa
open Go.RowKit

theorem St.stored {w w' : World} {B d n m : Nat} {v : Value} {M M2 M3 : MS} (h : St w B d n m v M M2) (hm : MAt w' B m v M3) (ht : MTurn w w' m v) :
    St w' B d n m v M M3 ∧ Below B w w' ∧ ∀ (b : Nat) (cs : Array Value) (T : TypeId) (fz : Nat × Nat), w.heap[b]? = some (.cells cs T fz) → Else T → w'.heap[b]? = w.heap[b]? := by
  obtain ⟨_, ⟨v', h1⟩, h2, h3⟩ := h.done (r := ((0 : Int), M3)) (e := .returned (.int .i64 0)) ⟨rfl, ⟨v, hm, VNew.refl _ _⟩, ht⟩
  exact ⟨⟨h1.1, hm⟩, h2, h3⟩

/-- the model's files behind j rounds -/
def crJ (more : Nat → Int) (gs : List FileS) (j : Nat) : List FileS := crashF more (gs.take j) ++ gs.drop j
theorem crJ_length (more : Nat → Int) (gs : List FileS) (j : Nat) (h : j ≤ gs.length) : (crJ more gs j).length = gs.length := by
  unfold crJ
  rw [List.length_append, crashF_length, List.length_take, List.length_drop]; omega
theorem crJ_at (more : Nat → Int) (gs : List FileS) (j : Nat) (h : j < gs.length) (h2 : j < (crJ more gs j).length) : (crJ more gs j)[j] = gs[j] := by
  have h3 : (crashF more (gs.take j)).length = j := by rw [crashF_length, List.length_take]; omega
  have h4 : (crJ more gs j)[j]? = some gs[j] := by
    unfold crJ
    rw [List.getElem?_append_right (by omega), h3, Nat.sub_self]
    simp
  rw [List.getElem?_eq_getElem h2] at h4
  exact Option.some.inj h4
theorem crJ_next (more : Nat → Int) (gs : List FileS) (j : Nat) (h : j < gs.length) :
    (crJ more gs j).set j ⟨(gs[j]).name, (gs[j]).data.take (crZ (gs[j]).data.length (gs[j]).safe (more j)), crZ (gs[j]).data.length (gs[j]).safe (more j)⟩ = crJ more gs (j + 1) := by
  have h3 : (crashF more (gs.take j)).length = j := by rw [crashF_length, List.length_take]; omega
  unfold crJ
  rw [List.set_append_right _ _ (by omega), h3, Nat.sub_self, crashF_snoc more gs j h, List.drop_eq_getElem_cons h, List.set_cons_zero, List.append_assoc]
  rfl
theorem crJ_end (more : Nat → Int) (gs : List FileS) : crJ more gs gs.length = crashF more gs := by unfold crJ; simp
theorem crJ_zero (more : Nat → Int) (gs : List FileS) : crJ more gs 0 = gs := by unfold crJ; simp [crashF]

theorem more_none : moreAt [] 0 = fun _ => 0 := by funext i; unfold moreAt; rw [if_neg (by omega)]

theorem crash_again {w : World} {B d n : Nat} {M : MS} (h : DM w B d n M) (more : Nat → Int) : (M.crash more).crash (moreAt [] 0) = M.crash more := by
  rw [more_none]
  have hs : ∀ f ∈ M.files, f.safe ≤ f.data.length := by
    obtain ⟨mb, m, S, fs, rfl, hI, _⟩ := h
    exact hI.safe
  unfold MS.crash
  show MS.mk (crashF _ (crashF more M.files)) _ _ _ = _
  congr 1
  unfold crashF
  apply List.ext_getElem
  · simp
  · intro i h1 h2
    simp only [List.getElem_mapIdx]
    have hi : i < M.files.length := by simpa using h2
    have h3 := crZ_le (more := more i) (hs _ (List.getElem_mem hi))
    have e : crZ ((M.files[i]).data.take (crZ (M.files[i]).data.length (M.files[i]).safe (more i))).length (crZ (M.files[i]).data.length (M.files[i]).safe (more i)) 0 = crZ (M.files[i]).data.length (M.files[i]).safe (more i) := by
      rw [List.length_take]
      generalize crZ (M.files[i]).data.length (M.files[i]).safe (more i) = Z at h3 ⊢
      unfold crZ
      omega
    rw [e, List.take_take, Nat.min_self]

theorem DM.safe_le {w : World} {B d n : Nat} {M : MS} (h : DM w B d n M) : ∀ f ∈ M.files, f.safe ≤ f.data.length ∧ f.data.length ≤ 1048576 := by
  have hk := h.known
  obtain ⟨mb, m, S, fs, rfl, hI, _⟩ := h
  intro f hf
  have := len_sum hf
  exact ⟨hI.safe f hf, by have := hk.2.2.2.2.1; omega⟩

theorem law_z {L sf : Nat} {z : Int} (h : sf ≤ L) (h2 : L ≤ 1048576) : min (L : Int) ((sf : Int) + min (max z 0) 1048576) = (crZ L sf z : Int) := by
  unfold crZ; omega
theorem law_z0 {L sf : Nat} : (sf : Int) = (crZ L sf 0 : Int) := by unfold crZ; omega

/-- a file cut off, by two stores -/
theorem St.cut {w : World} {B d n m g c : Nat} {M M2 : MS} {gs : List FileS} (hg : M2.files = gs) (h : St w B d n m (.slice (some ⟨g, 0, none⟩) gs.length c) M M2) (j : Nat) (hj : j < gs.length) (X : ByteArray) (Z : Nat) (l : L8) (hX : X = ⟨l.toArray⟩) :
    St ((w.setCell ⟨g, j * 3 + 1, none⟩ (.string X)).setCell ⟨g, j * 3 + 2, none⟩ (.int .i64 Z)) B d n m (.slice (some ⟨g, 0, none⟩) gs.length c) M { M2 with files := gs.set j ⟨(gs[j]).name, l, Z⟩ } ∧
      Below B w ((w.setCell ⟨g, j * 3 + 1, none⟩ (.string X)).setCell ⟨g, j * 3 + 2, none⟩ (.int .i64 Z)) ∧ ∀ (b : Nat) (cs : Array Value) (T : TypeId) (fz : Nat × Nat), w.heap[b]? = some (.cells cs T fz) → Else T → ((w.setCell ⟨g, j * 3 + 1, none⟩ (.string X)).setCell ⟨g, j * 3 + 2, none⟩ (.int .i64 Z)).heap[b]? = w.heap[b]? := by
  subst hg hX
  have hr1 := (h.2.2.1).set rfl j 1 (.string ⟨l.toArray⟩) ⟨(M2.files[j]).name, l, (M2.files[j]).safe⟩ hj (by omega) rfl
  have hj2 : j < (M2.files.set j ⟨(M2.files[j]).name, l, (M2.files[j]).safe⟩).length := by rw [List.length_set]; exact hj
  have hr2 := hr1.set (by rw [List.length_set]) j 2 (.int .i64 Z) ⟨(M2.files[j]).name, l, Z⟩ hj2 (by omega) (by simp [fcells])
  rw [List.set_set] at hr2
  have hk : ∀ q, q ≠ g → ((w.setCell ⟨g, j * 3 + 1, none⟩ (.string ⟨l.toArray⟩)).setCell ⟨g, j * 3 + 2, none⟩ (.int .i64 Z)).heap[q]? = w.heap[q]? := fun q hq => (Below.heap_setCell _ ⟨g, j * 3 + 2, none⟩ _ q hq).trans (Below.heap_setCell w ⟨g, j * 3 + 1, none⟩ _ q hq)
  have hne : g ≠ m := fun e => h.2.2.1.ne h.2.1 (by rw [e]; rfl)
  refine h.stored ⟨(hk m (Ne.symm hne)).trans h.2.1, hr2, h.2.2.2⟩ ⟨rfl, rfl, rfl, by simp [World.setCell], fun q _ _ h2 => hk q fun e => h2 (by rw [e]; rfl)⟩

/-- power again -/
theorem St.power {w : World} {B d n m : Nat} {v : Value} {M M2 : MS} (h : St w B d n m v M M2) :
    St ((w.setCell ⟨m, 2, none⟩ (.bool false)).setCell ⟨m, 3, none⟩ (.int .i64 (-1))) B d n m v M { M2 with down := false, falls := -1 } ∧ Below B w ((w.setCell ⟨m, 2, none⟩ (.bool false)).setCell ⟨m, 3, none⟩ (.int .i64 (-1))) ∧
      ∀ (b : Nat) (cs : Array Value) (T : TypeId) (fz : Nat × Nat), w.heap[b]? = some (.cells cs T fz) → Else T → ((w.setCell ⟨m, 2, none⟩ (.bool false)).setCell ⟨m, 3, none⟩ (.int .i64 (-1))).heap[b]? = w.heap[b]? := by
  have h1 := h.2.set (M' := { M2 with down := false }) 2 (.bool false) rfl rfl
  have h2 := h1.1.set (M' := { M2 with down := false, falls := -1 }) 3 (.int .i64 (-1)) rfl rfl
  exact h.stored h2.1 (h1.2.trans h2.2 (VNew.refl _ _))

end Go.Proofs.Ytkeopkhbcmeplaa
