/-
  The law's model: put.
-/
import Derived.Test.YtkeopkhbcmeplaaMDrop
import Derived.Laws.OwnMore
namespace Go.Proofs.Ytkeopkhbcmeplaa
open Go.RowKit

theorem rcells_set : ∀ (gs : List FileS) (i j : Nat) (u : Value) (f : FileS) (h : i < gs.length), j < 3 → (fcells gs[i]).set j u = fcells f → (rcells gs).set (i * 3 + j) u = rcells (gs.set i f)
  | [], i, _, _, _, h, _, _ => by simp at h
  | y :: r, i, j, u, f, h, hj, he => by
    have ih := rcells_set r
    unfold rcells at ih ⊢
    rw [List.flatMap_cons]
    cases i with
    | zero =>
      rw [List.set_append_left _ _ (by show 0 * 3 + j < 3; omega)]
      simp only [List.set_cons_zero, List.flatMap_cons, Nat.zero_mul, Nat.zero_add]
      rw [← he]; rfl
    | succ i =>
      rw [List.set_append_right _ _ (by show 3 ≤ (i + 1) * 3 + j; omega)]
      show fcells y ++ (List.flatMap fcells r).set ((i + 1) * 3 + j - 3) u = _
      rw [show (i + 1) * 3 + j - 3 = i * 3 + j by omega, ih i j u f (by simpa using h) hj (by simpa using he)]
      rfl

theorem MRow.set {w : World} {B g n c : Nat} {gs : List FileS} (h : MRow w B (.slice (some ⟨g, 0, none⟩) n c) gs) (hn : n = gs.length) (i j : Nat) (u : Value) (f : FileS) (hi : i < gs.length) (hj : j < 3) (he : (fcells gs[i]).set j u = fcells f) :
    MRow (w.setCell ⟨g, i * 3 + j, none⟩ u) B (.slice (some ⟨g, 0, none⟩) n c) (gs.set i f) := by
  subst hn
  unfold MRow
  rw [List.length_set, ← rcells_set gs i j u f hi hj he]
  exact (World.ownsRow.stored h (i * 3 + j) u).1

/-- a file laid over another -/
theorem MRow.set3 {w : World} {B g n c : Nat} {gs : List FileS} (h : MRow w B (.slice (some ⟨g, 0, none⟩) n c) gs) (hn : n = gs.length) (i : Nat) (f : FileS) (hi : i < gs.length) :
    MRow (((w.setCell ⟨g, i * 3, none⟩ (.string ⟨f.name.toArray⟩)).setCell ⟨g, i * 3 + 1, none⟩ (.string ⟨f.data.toArray⟩)).setCell ⟨g, i * 3 + 2, none⟩ (.int .i64 f.safe)) B (.slice (some ⟨g, 0, none⟩) n c) (gs.set i f) := by
  have h1 := h.set hn i 0 (.string ⟨f.name.toArray⟩) ⟨f.name, (gs[i]).data, (gs[i]).safe⟩ hi (by omega) rfl
  have hi1 : i < (gs.set i ⟨f.name, (gs[i]).data, (gs[i]).safe⟩).length := by rw [List.length_set]; exact hi
  have h2 := h1.set (by rw [List.length_set]; exact hn) i 1 (.string ⟨f.data.toArray⟩) ⟨f.name, f.data, (gs[i]).safe⟩ hi1 (by omega) (by simp [fcells])
  rw [List.set_set] at h2
  have hi2 : i < (gs.set i ⟨f.name, f.data, (gs[i]).safe⟩).length := by rw [List.length_set]; exact hi
  have h3 := h2.set (by rw [List.length_set]; exact hn) i 2 (.int .i64 f.safe) f hi2 (by omega) (by simp [fcells])
  rw [List.set_set] at h3
  exact h3

theorem set_at {k : L8} {gs : List FileS} (f : FileS) (h : isAt k gs = true) : gs.set (hd k gs).length f = hd k gs ++ f :: tl2 k gs ∧ (hd k gs).length < gs.length := by
  obtain ⟨y, r, e1, e2, e3, e4⟩ := isAt_split h
  rw [e4]
  obtain ⟨A, hA⟩ : ∃ A, A = hd k gs := ⟨_, rfl⟩
  rw [← hA] at e3 ⊢
  rw [e3]
  exact ⟨by rw [List.set_append_right _ _ (Nat.le_refl _)]; simp, by simp⟩
theorem take_hd (k : L8) (gs : List FileS) : gs.take (hd k gs).length = hd k gs ∧ gs.drop (hd k gs).length = tl k gs ∧ (hd k gs).length ≤ gs.length := by
  have e := hd_tl k gs
  refine ⟨?_, ?_, ?_⟩
  · conv => lhs; arg 2; rw [← e]
    exact List.take_left
  · conv => lhs; arg 2; rw [← e]
    exact List.drop_left
  · have := congrArg List.length e
    rw [List.length_append] at this
    omega

theorem slice_max (g n c i : Nat) (h : i ≤ c) (W : World) : (Instr.slice 28 (.slice (some ⟨g, 0, none⟩) n c) none (some (.int .i64 (i : Int))) (some (.int .i64 (i : Int)))).run Try.prog W = .ok (.slice (some ⟨g, 0, none⟩) i i) W := by
  have h1 : (i : Int) ≤ (c : Int) := by omega
  go_simp
theorem slice_nil1 (W : World) : (Instr.slice 28 (.slice none 0 0) none (some (.int .i64 0)) (some (.int .i64 0))).run Try.prog W = .ok (.slice none 0 0) W := by
  go_simp
theorem slice_nil2 (W : World) : (Instr.slice 28 (.slice none 0 0) (some (.int .i64 0)) none none).run Try.prog W = .ok (.slice none 0 0) W := by
  go_simp

/-- the two parts of the model's files, as put takes them -/
theorem parts {w : World} {B : Nat} {a : Option Addr} {c : Nat} {gs : List FileS} (h : MRow w B (.slice a gs.length c) gs) (hc : gs.length ≤ c) (i : Nat) (hi : i ≤ gs.length) :
    ∃ (a1 a2 : Option Addr) (n2 c2 : Nat), (∀ W, (Instr.slice 28 (.slice a gs.length c) none (some (.int .i64 (i : Int))) (some (.int .i64 (i : Int)))).run Try.prog W = .ok (.slice a1 i i) W) ∧
      (∀ W, (Instr.slice 28 (.slice a gs.length c) (some (.int .i64 (i : Int))) none none).run Try.prog W = .ok (.slice a2 n2 c2) W) ∧
      ∀ W, MRow W B (.slice a gs.length c) gs → RRow W (.slice a1 i i) (gs.take i) ∧ RRow W (.slice a2 n2 c2) (gs.drop i) := by
  rcases h.2 with ⟨e, h0⟩ | ⟨g, cap, cur, e, _⟩
  · injection e with e1 e2 e3
    have hgs : gs = [] := List.eq_nil_of_length_eq_zero h0
    subst e1 e3 hgs
    have hi0 : i = 0 := by simpa using hi
    subst hi0
    exact ⟨none, none, 0, 0, slice_nil1, slice_nil2, fun W _ => ⟨.inl ⟨rfl, rfl⟩, .inl ⟨rfl, rfl⟩⟩⟩
  · injection e with e1 e2 e3
    subst e1 e3
    obtain ⟨off, hlo, hoff⟩ := slice_lo g gs.length c i hi hc
    refine ⟨some ⟨g, 0, none⟩, some ⟨g, off, none⟩, gs.length - i, c - i, slice_max g gs.length c i (by omega), hlo, fun W hW => ⟨?_, hW.dropped i (c - i) off hi hoff⟩⟩
    rcases hW.take i i hi with h1 | h1
    · exact h1
    · cases h1

end Go.Proofs.Ytkeopkhbcmeplaa
