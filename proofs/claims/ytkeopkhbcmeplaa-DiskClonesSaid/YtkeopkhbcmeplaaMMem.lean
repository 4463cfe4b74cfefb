/-
  The law's model in memory: its files' row, and the model's own block; where a file is.
-/
import Derived.Test.YtkeopkhbcmeplaaDHead
import Derived.Test.YtkeopkhbcmeplaaDCuts
import Derived.Sort.Walk0
namespace Go.Proofs.Ytkeopkhbcmeplaa
open Go.RowKit

/-! ### a prefix that a test cuts off -/
theorem tw_next {α : Type} {p : α → Bool} : ∀ {l : List α} {k : Nat} (hk : k < l.length), k ≤ (l.takeWhile p).length → p l[k] = true → k + 1 ≤ (l.takeWhile p).length
  | [], _, hk, _, _ => by simp at hk
  | x :: r, k, hk, hle, hp => by
    rw [List.takeWhile_cons] at hle ⊢
    cases hx : p x with
    | false =>
      rw [hx] at hle
      simp at hle
      subst hle
      simp at hp
      rw [hx] at hp; cases hp
    | true =>
      rw [hx] at hle
      cases k with
      | zero => simp
      | succ k =>
        simp at hle hp hk ⊢
        exact tw_next hk hle hp
theorem tw_stop {α : Type} {p : α → Bool} : ∀ {l : List α} {k : Nat} (hk : k < l.length), k ≤ (l.takeWhile p).length → p l[k] = false → (l.takeWhile p).length = k ∧ l.dropWhile p = l.drop k
  | [], _, hk, _, _ => by simp at hk
  | x :: r, k, hk, hle, hp => by
    rw [List.takeWhile_cons] at hle ⊢
    rw [List.dropWhile_cons]
    cases hx : p x with
    | false =>
      rw [hx] at hle
      simp at hle
      subst hle
      simp
    | true =>
      rw [hx] at hle
      cases k with
      | zero => simp at hp; rw [hx] at hp; cases hp
      | succ k =>
        simp at hle hp hk ⊢
        exact tw_stop hk hle hp
theorem tw_end {α : Type} {p : α → Bool} : ∀ {l : List α}, l.length ≤ (l.takeWhile p).length → l.dropWhile p = [] ∧ (l.takeWhile p).length = l.length
  | [], _ => ⟨rfl, rfl⟩
  | x :: r, h => by
    rw [List.takeWhile_cons] at h ⊢
    rw [List.dropWhile_cons]
    cases hx : p x with
    | false => rw [hx] at h; simp at h
    | true =>
      rw [hx] at h
      simp at h ⊢
      exact tw_end h

theorem addr_add (g k : Nat) : (⟨g, 0, none⟩ : Addr).add k = ⟨g, k, none⟩ := by unfold Addr.add; split <;> simp_all

theorem below_dn {B : Nat} {a w : World} (h : Below B a w) (q : Nat) : Below B a (w.drewN q) := ⟨h.os, h.tape, h.output, h.size, h.block⟩

/-! ### files in memory -/
def fcells (f : FileS) : List Value := [.string ⟨f.name.toArray⟩, .string ⟨f.data.toArray⟩, .int .i64 f.safe]
def rcells (gs : List FileS) : List Value := gs.flatMap fcells
theorem rcells_length : ∀ gs : List FileS, (rcells gs).length = gs.length * 3
  | [] => rfl
  | f :: r => by
    have := rcells_length r
    unfold rcells at this ⊢
    rw [List.flatMap_cons, List.length_append, this]
    show 3 + _ = _
    simp; omega
theorem rcells_append (a b : List FileS) : rcells (a ++ b) = rcells a ++ rcells b := by unfold rcells; rw [List.flatMap_append]
theorem rcells_at : ∀ (gs : List FileS) (i j : Nat) (h : i < gs.length), j < 3 → (rcells gs)[i * 3 + j]? = (fcells gs[i])[j]?
  | [], i, j, h, _ => by simp at h
  | f :: r, i, j, h, hj => by
    have ih := rcells_at r
    unfold rcells at ih ⊢
    rw [List.flatMap_cons]
    cases i with
    | zero =>
      rw [List.getElem?_append_left (by show 0 * 3 + j < 3; omega)]
      simp
    | succ i =>
      rw [List.getElem?_append_right (by show 3 ≤ (i + 1) * 3 + j; omega)]
      show (List.flatMap fcells r)[(i + 1) * 3 + j - 3]? = _
      rw [show (i + 1) * 3 + j - 3 = i * 3 + j by omega, ih i j (by simpa using h) hj]
      simp
theorem rcells_take (gs : List FileS) (i : Nat) : rcells (gs.take i) = (rcells gs).take (i * 3) := by
  by_cases h : i ≤ gs.length
  · have h1 : rcells gs = rcells (gs.take i) ++ rcells (gs.drop i) := by rw [← rcells_append, List.take_append_drop]
    rw [h1, List.take_left']
    rw [rcells_length, List.length_take]; omega
  · rw [List.take_of_length_le (by omega), List.take_of_length_le (by rw [rcells_length]; omega)]
theorem rcells_one (gs : List FileS) : ∀ u ∈ rcells gs, u.oneCell' = true := fun u hu => by
  unfold rcells at hu
  obtain ⟨f, _, hf⟩ := List.mem_flatMap.1 hu
  unfold fcells at hf
  simp at hf
  rcases hf with rfl | rfl | rfl <;> rfl

/-- v owns the files gs -/
def MRow (w : World) (B : Nat) (v : Value) (gs : List FileS) : Prop := w.ownsRow B 45 3 v gs.length (rcells gs)

theorem MRow.form {w : World} {B : Nat} {v : Value} {gs : List FileS} (h : MRow w B v gs) : ∃ a c, v = .slice a gs.length c ∧ gs.length ≤ c := by
  rcases h.2 with ⟨rfl, h0⟩ | ⟨g, cap, cur, rfl, _, _, h1, _⟩
  · exact ⟨none, 0, by rw [h0], by omega⟩
  · exact ⟨_, _, rfl, h1⟩

theorem MRow.blk {w : World} {B : Nat} {a : Option Addr} {n c : Nat} {gs : List FileS} (h : MRow w B (.slice a n c) gs) (h0 : 0 < gs.length) : ∃ g, a = Option.some ⟨g, 0, none⟩ ∧ B ≤ g ∧ g < w.heap.size := by
  rcases h.2 with ⟨e, h1⟩ | ⟨g, cap, cur, e, _⟩
  · omega
  · injection e with e1
    subst e1
    exact ⟨g, rfl, World.ownsRow.lt h g rfl⟩

/-- a file's three cells -/
theorem MRow.cell {w : World} {B g n c : Nat} {gs : List FileS} (h : MRow w B (.slice (Option.some ⟨g, 0, none⟩) n c) gs) (i : Nat) (hi : i < gs.length) :
    w.cell? ⟨g, i * 3, none⟩ = some (.string ⟨(gs[i]).name.toArray⟩) ∧ w.cell? ⟨g, i * 3 + 1, none⟩ = some (.string ⟨(gs[i]).data.toArray⟩) ∧ w.cell? ⟨g, i * 3 + 2, none⟩ = some (.int .i64 (gs[i]).safe) := by
  have key : ∀ j, j < 3 → w.cell? ⟨g, i * 3 + j, none⟩ = (fcells gs[i])[j]? := fun j hj => by
    have h1 := rcells_at gs i j hi hj
    have h2 : ∃ u, (fcells gs[i])[j]? = some u := by
      match j, hj with
      | 0, _ => exact ⟨_, rfl⟩
      | 1, _ => exact ⟨_, rfl⟩
      | 2, _ => exact ⟨_, rfl⟩
    obtain ⟨u, hu⟩ := h2
    rw [hu] at h1 ⊢
    have h3 := World.ownsRow.cells h (g := g) rfl (i * 3 + j) u h1
    rwa [addr_add] at h3
  exact ⟨key 0 (by omega), key 1 (by omega), key 2 (by omega)⟩

/-- the model at m -/
def MAt (w : World) (B m : Nat) (v : Value) (M : MS) : Prop := Box w m 30 #[v, .int .i64 M.size, .bool M.down, .int .i64 M.falls] ∧ MRow w B v M.files ∧ B ≤ m

theorem Box.four {w : World} {g : Nat} {c0 c1 c2 c3 : Value} {t : TypeId} (h : Box w g t #[c0, c1, c2, c3]) :
    (w.cell? ⟨g, 0, none⟩ = some c0 ∧ w.cell? ⟨g, 1, none⟩ = some c1 ∧ w.cell? ⟨g, 2, none⟩ = some c2 ∧ w.cell? ⟨g, 3, none⟩ = some c3) ∧
    (w.frozen? ⟨g, 0, none⟩ = false ∧ w.frozen? ⟨g, 1, none⟩ = false ∧ w.frozen? ⟨g, 2, none⟩ = false ∧ w.frozen? ⟨g, 3, none⟩ = false) :=
  ⟨⟨h.cell 0, h.cell 1, h.cell 2, h.cell 3⟩, h.free 0, h.free 1, h.free 2, h.free 3⟩

theorem MRow.ne {w : World} {B m : Nat} {v : Value} {gs : List FileS} {cs : Array Value} (h : MRow w B v gs) (hb : Box w m 30 cs) : v.ownBlock ≠ Option.some m := fun e => by
  rcases h.2 with ⟨rfl, _⟩ | ⟨g, cap, cur, rfl, _, hg, _⟩
  · cases e
  · obtain rfl : g = m := by simpa [Value.ownBlock] using e
    unfold Box at hb
    rw [hg] at hb
    injection hb with hb
    injection hb with _ hb _
    exact absurd hb (by decide)

theorem MRow.keep {w w' : World} {B : Nat} {v : Value} {gs : List FileS} (h : MRow w B v gs) (hk : ∀ q, v.ownBlock = Option.some q → w'.heap[q]? = w.heap[q]?) : MRow w' B v gs :=
  ⟨h.1, h.2.imp id fun ⟨g, cap, cur, e1, e2, e3, e4⟩ => ⟨g, cap, cur, e1, e2, (hk g (by rw [e1]; rfl)).trans e3, e4⟩⟩

theorem MAt.lt {w : World} {B m : Nat} {v : Value} {M : MS} (h : MAt w B m v M) : m < w.heap.size ∧ ∀ q, v.ownBlock = some q → B ≤ q ∧ q < w.heap.size := ⟨h.1.lt, World.ownsRow.lt h.2.1⟩
theorem MAt.keep {w w' : World} {B m : Nat} {v : Value} {M : MS} (h : MAt w B m v M) (hm : w'.heap[m]? = w.heap[m]?) (hk : ∀ q, v.ownBlock = some q → w'.heap[q]? = w.heap[q]?) : MAt w' B m v M :=
  ⟨hm.trans h.1, h.2.1.keep hk, h.2.2⟩
theorem MAt.below {w w' : World} {B m : Nat} {v : Value} {M : MS} (h : MAt w B m v M) (hb : Below w.heap.size w w') : MAt w' B m v M :=
  h.keep (hb.block m h.lt.1) fun q hq => hb.block q (h.lt.2 q hq).2

end Go.Proofs.Ytkeopkhbcmeplaa
