/-
  tree: a tree in memory; Len, place, Get (trees of int).
-/
import Derived.Test.YtkohmiegkebmeaaTSearchI
namespace Go.Proofs.Ytkohmiegkebmeaa.tI
open Go.RowKit

abbrev KV := ByteArray × Value
def ecells (l : List KV) : List Value := l.flatMap fun p => [.string p.1, p.2]
theorem ecells_length : ∀ l : List KV, (ecells l).length = l.length * 2
  | [] => rfl
  | p :: r => by
    have := ecells_length r
    unfold ecells at this ⊢
    rw [List.flatMap_cons, List.length_append, this]
    show 2 + _ = _
    simp; omega
theorem ecells_append (a b : List KV) : ecells (a ++ b) = ecells a ++ ecells b := by unfold ecells; rw [List.flatMap_append]
theorem ecells_at : ∀ (l : List KV) (i : Nat) (h : i < l.length), (ecells l)[i * 2]? = some (.string (l[i]).1) ∧ (ecells l)[i * 2 + 1]? = some (l[i]).2
  | [], i, h => by simp at h
  | p :: r, i, h => by
    have ih := ecells_at r
    unfold ecells at ih ⊢
    rw [List.flatMap_cons]
    match i, h with
    | 0, _ => exact ⟨rfl, rfl⟩
    | i + 1, h =>
      obtain ⟨h1, h2⟩ := ih i (by simpa using h)
      refine ⟨?_, ?_⟩
      · rw [List.getElem?_append_right (by show 2 ≤ _; omega), show (i + 1) * 2 - ([Value.string p.1, p.2] : List Value).length = i * 2 by show (i + 1) * 2 - 2 = _; omega]
        exact h1
      · rw [List.getElem?_append_right (by show 2 ≤ _; omega), show (i + 1) * 2 + 1 - ([Value.string p.1, p.2] : List Value).length = i * 2 + 1 by show (i + 1) * 2 + 1 - 2 = _; omega]
        exact h2

/-- how many keys there are -/
def total (ls : List (List KV)) : Nat := ls.flatten.length
def keysOf (l : List KV) : List ByteArray := l.map Prod.fst
def firstOf (l : List KV) : ByteArray := (l.map Prod.fst).headD ⟨#[]⟩
def firsts (ls : List (List KV)) : List ByteArray := ls.map firstOf

/-- keys that rise, in leaves none of which is empty -/
def GoodT (ls : List (List KV)) : Prop := (∀ l ∈ ls, l ≠ []) ∧ RiseB (keysOf ls.flatten)

theorem keysOf_append (a b : List KV) : keysOf (a ++ b) = keysOf a ++ keysOf b := by unfold keysOf; rw [List.map_append]

theorem GoodT.tail {l : List KV} {ls : List (List KV)} (h : GoodT (l :: ls)) : GoodT ls := by
  refine ⟨fun x hx => h.1 x (List.mem_cons_of_mem _ hx), ?_⟩
  have h2 := h.2
  unfold RiseB at h2 ⊢
  rw [List.flatten_cons, keysOf_append] at h2
  exact (List.pairwise_append.1 h2).2.1

theorem first_mem {l : List KV} (h : l ≠ []) : firstOf l ∈ keysOf l := by
  cases l with
  | nil => exact absurd rfl h
  | cons p r => simp [firstOf, keysOf]

theorem GoodT.leaf : ∀ {ls : List (List KV)}, GoodT ls → ∀ l ∈ ls, RiseB (keysOf l)
  | [], _, l, hl => by cases hl
  | x :: ls, h, l, hl => by
    have h2 := h.2
    unfold RiseB at h2
    rw [List.flatten_cons, keysOf_append] at h2
    rcases List.mem_cons.1 hl with rfl | hl
    · exact (List.pairwise_append.1 h2).1
    · exact GoodT.leaf h.tail l hl

theorem GoodT.firsts : ∀ {ls : List (List KV)}, GoodT ls → RiseB (firsts ls)
  | [], _ => List.Pairwise.nil
  | x :: ls, h => by
    have h2 := h.2
    unfold RiseB at h2
    rw [List.flatten_cons, keysOf_append] at h2
    have h3 := (List.pairwise_append.1 h2).2.2
    refine List.pairwise_cons.2 ⟨fun k hk => ?_, GoodT.firsts h.tail⟩
    obtain ⟨l, hl, rfl⟩ := List.mem_map.1 hk
    refine h3 _ (first_mem (h.1 x (List.mem_cons_self))) _ ?_
    have := first_mem (h.1 l (List.mem_cons_of_mem _ hl))
    unfold keysOf at this ⊢
    obtain ⟨p, hp, e⟩ := List.mem_map.1 this
    exact List.mem_map.2 ⟨p, List.mem_flatten.2 ⟨l, hl, hp⟩, e⟩

/-- a leaf in memory (a slice of entries that the tree owns), its block among B's -/
def LeafAt (B : Nat → Prop) (W : World) (s : Value) (l : List KV) : Prop := RowK 67 2 0 W s l.length (ecells l) ∧ ∀ q, s.ownBlock = some q → B q
def LeavesAt (B : Nat → Prop) (W : World) : List Value → List (List KV) → Prop
  | [], [] => True
  | s :: ss, l :: ls => LeafAt B W s l ∧ LeavesAt B W ss ls
  | [], _ :: _ => False
  | _ :: _, [] => False
/-- two values that share no block -/
def Ap (a b : Value) : Prop := ∀ q, a.ownBlock = some q → b.ownBlock ≠ some q
theorem Ap.symm {a b : Value} (h : Ap a b) : Ap b a := fun q hb ha => h q ha hb

theorem LeafAt.keep {B B' : Nat → Prop} {W W' : World} {s : Value} {l : List KV} (h : LeafAt B W s l) (hk : ∀ q, s.ownBlock = some q → B q → q < W.heap.size → W'.heap[q]? = W.heap[q]? ∧ B' q) : LeafAt B' W' s l :=
  ⟨h.1.keep fun q hq => ⟨(hk q hq (h.2 q hq) (h.1.lt q hq).2).1, Nat.zero_le _⟩, fun q hq => (hk q hq (h.2 q hq) (h.1.lt q hq).2).2⟩
theorem LeavesAt.keep {B B' : Nat → Prop} {W W' : World} : ∀ {ss : List Value} {ls : List (List KV)}, LeavesAt B W ss ls → (∀ s ∈ ss, ∀ q, s.ownBlock = some q → B q → q < W.heap.size → W'.heap[q]? = W.heap[q]? ∧ B' q) → LeavesAt B' W' ss ls
  | [], [], _, _ => trivial
  | _ :: _, _ :: _, h, hk => ⟨h.1.keep (hk _ List.mem_cons_self), LeavesAt.keep h.2 fun s hs => hk s (List.mem_cons_of_mem _ hs)⟩
  | [], _ :: _, h, _ => h.elim
  | _ :: _, [], h, _ => h.elim
theorem LeavesAt.len {B : Nat → Prop} {W : World} : ∀ {ss : List Value} {ls : List (List KV)}, LeavesAt B W ss ls → ss.length = ls.length
  | [], [], _ => rfl
  | _ :: _, _ :: _, h => by rw [List.length_cons, List.length_cons, LeavesAt.len h.2]
  | [], _ :: _, h => h.elim
  | _ :: _, [], h => h.elim
theorem LeavesAt.get {B : Nat → Prop} {W : World} : ∀ {ss : List Value} {ls : List (List KV)}, LeavesAt B W ss ls → ∀ i (h : i < ls.length), ∃ s, ss[i]? = some s ∧ LeafAt B W s ls[i]
  | [], [], _, i, h => by simp at h
  | s :: ss, l :: ls, hL, 0, _ => ⟨s, rfl, hL.1⟩
  | s :: ss, l :: ls, hL, i + 1, h => by
    obtain ⟨x, e, hx⟩ := LeavesAt.get hL.2 i (by simpa using h)
    exact ⟨x, by simpa using e, hx⟩
  | [], _ :: _, hL, _, _ => hL.elim
  | _ :: _, [], hL, _, _ => hL.elim
theorem LeavesAt.cut {B : Nat → Prop} {W : World} : ∀ {ss : List Value} {A C : List (List KV)}, LeavesAt B W ss (A ++ C) → ∃ a c, ss = a ++ c ∧ a.length = A.length ∧ LeavesAt B W a A ∧ LeavesAt B W c C
  | ss, [], C, h => ⟨[], ss, rfl, rfl, trivial, h⟩
  | s :: ss, l :: A, C, h => by
    obtain ⟨a, c, e, e2, h1, h2⟩ := LeavesAt.cut (ss := ss) (A := A) (C := C) h.2
    exact ⟨s :: a, c, by rw [e]; rfl, by rw [List.length_cons, List.length_cons, e2], ⟨h.1, h1⟩, h2⟩
  | [], _ :: _, _, h => h.elim
theorem LeavesAt.join {B : Nat → Prop} {W : World} : ∀ {a : List Value} {A : List (List KV)} {c : List Value} {C : List (List KV)}, LeavesAt B W a A → LeavesAt B W c C → LeavesAt B W (a ++ c) (A ++ C)
  | [], [], _, _, _, h => h
  | _ :: _, _ :: _, _, _, h1, h2 => ⟨h1.1, LeavesAt.join h1.2 h2⟩
  | [], _ :: _, _, _, h, _ => h.elim
  | _ :: _, [], _, _, h, _ => h.elim

/-- a tree in memory, whatever its keys: its box, the row of its leaves, and the leaves, no two of which share a block; all blocks among B's -/
def TreeOpen (B : Nat → Prop) (W : World) (t : Nat) (rv : Value) (ss : List Value) (ls : List (List KV)) (sz : Nat) : Prop :=
  B t ∧ Box W t 47 #[rv, .int .i64 sz] ∧ RowK 65 1 0 W rv ls.length ss ∧ (∀ q, rv.ownBlock = some q → B q) ∧ LeavesAt B W ss ls ∧ ss.Pairwise Ap
theorem TreeOpen.keep {B B' : Nat → Prop} {W W' : World} {t : Nat} {rv : Value} {ss : List Value} {ls : List (List KV)} {sz : Nat} (h : TreeOpen B W t rv ss ls sz) (hk : ∀ q, B q → q < W.heap.size → W'.heap[q]? = W.heap[q]? ∧ B' q) : TreeOpen B' W' t rv ss ls sz := by
  obtain ⟨h1, hb, hr, ho, hl, hd⟩ := h
  exact ⟨(hk t h1 hb.lt).2, (hk t h1 hb.lt).1.trans hb, hr.keep fun q hq => ⟨(hk q (ho q hq) (hr.lt q hq).2).1, Nat.zero_le _⟩, fun q hq => (hk q (ho q hq) (hr.lt q hq).2).2, hl.keep fun s _ q _ hB hlt => hk q hB hlt, hd⟩

/-- a tree in memory -/
def TreeAt (B : Nat → Prop) (W : World) (t : Nat) (ls : List (List KV)) : Prop :=
  B t ∧ GoodT ls ∧ total ls ≤ 50000 ∧ ∃ rv ss, TreeOpen B W t rv ss ls (total ls)

theorem TreeAt.box {B : Nat → Prop} {W : World} {t : Nat} {ls : List (List KV)} (h : TreeAt B W t ls) : ∃ la lc, Box W t 47 #[.slice la ls.length lc, .int .i64 (total ls)] := by
  obtain ⟨_, _, _, rv, ss, _, hb, hr, _⟩ := h
  obtain ⟨la, lc, rfl, _⟩ := hr.form
  exact ⟨la, lc, hb⟩
theorem TreeAt.lt {B : Nat → Prop} {W : World} {t : Nat} {ls : List (List KV)} (h : TreeAt B W t ls) : t < W.heap.size := by
  obtain ⟨la, lc, hb⟩ := h.box
  exact hb.lt

/-- what keeps a tree: its blocks -/
theorem TreeAt.keep {B B' : Nat → Prop} {W W' : World} {t : Nat} {ls : List (List KV)} (h : TreeAt B W t ls) (hk : ∀ q, B q → q < W.heap.size → W'.heap[q]? = W.heap[q]? ∧ B' q) : TreeAt B' W' t ls := by
  obtain ⟨h1, h2, h3, rv, ss, ho⟩ := h
  exact ⟨(hk t h1 ho.2.1.lt).2, h2, h3, rv, ss, ho.keep hk⟩
theorem TreeAt.below {B : Nat → Prop} {W W' : World} {t : Nat} {ls : List (List KV)} (h : TreeAt B W t ls) (hb : Below W.heap.size W W') : TreeAt B W' t ls := h.keep fun q hq hlt => ⟨hb.block q hlt, hq⟩

theorem len_any {B : Nat → Prop} {W : World} {t : Nat} {ls : List (List KV)} (h : TreeAt B W t ls) :
    Calls Try.prog 15 #[.pointer (some ⟨t, 0, none⟩)] W fun e w' => e = .returned (.int .i64 (total ls)) ∧ W = w' := by
  obtain ⟨la, lc, hb⟩ := h.box
  have h1 := hb.cell 1
  have hlt := hb.lt
  simp only [List.getElem?_toArray, List.getElem?_cons_succ, List.getElem?_cons_zero] at h1
  clear hb
  go_enter Try.func15, Try.ntmps15
  go_wp2
  go_ret
  exact ⟨rfl, rfl⟩

theorem len_nil (W : World) : Calls Try.prog 15 #[.pointer none] W fun e w' => e = .returned (.int .i64 0) ∧ W = w' := by
  go_enter Try.func15, Try.ntmps15
  go_wp2
  go_ret
  exact ⟨rfl, rfl⟩

/-- the leaf of a key, where it is there, and whether -/
def leafOf (ls : List (List KV)) (key : ByteArray) : Nat := if isB (firsts ls) key then atB (firsts ls) key else atB (firsts ls) key - 1
def placeT (ls : List (List KV)) (key : ByteArray) : Nat × Nat × Bool :=
  if ls = [] then (0, 0, false) else (leafOf ls key, atB (keysOf (ls.getD (leafOf ls key) [])) key, isB (keysOf (ls.getD (leafOf ls key) [])) key)

theorem total_zero {ls : List (List KV)} (h : GoodT ls) : total ls = 0 ↔ ls = [] := by
  constructor
  · intro h0
    cases ls with
    | nil => rfl
    | cons l r =>
      unfold total at h0
      rw [List.flatten_cons, List.length_append] at h0
      have := h.1 l List.mem_cons_self
      cases l with
      | nil => exact absurd rfl this
      | cons p q => simp at h0
  · intro h0
    rw [h0]
    rfl

theorem leafOf_lt {ls : List (List KV)} (hr : GoodT ls) (hne : ls ≠ []) (key : ByteArray) : leafOf ls key < ls.length := by
  have h1 := atB_le (firsts ls) key
  have h2 : (firsts ls).length = ls.length := by unfold firsts; simp
  have h3 : 0 < ls.length := List.length_pos_iff.2 hne
  unfold leafOf
  split
  · rename_i h
    rw [isB_at hr.firsts] at h
    split at h
    · omega
    · cases h
  · omega

theorem ls_le {ls : List (List KV)} (h : ∀ l ∈ ls, l ≠ []) : ls.length ≤ total ls := by
  unfold total
  induction ls with
  | nil => exact Nat.zero_le _
  | cons l r ih =>
    have := ih (fun x hx => h x (List.mem_cons_of_mem _ hx))
    have h1 := h l List.mem_cons_self
    have : 0 < l.length := List.length_pos_iff.2 h1
    rw [List.flatten_cons, List.length_append, List.length_cons]
    omega
theorem leaf_le {ls : List (List KV)} {l : List KV} (h : l ∈ ls) : l.length ≤ total ls := by
  unfold total
  induction ls with
  | nil => cases h
  | cons x r ih =>
    rw [List.flatten_cons, List.length_append]
    rcases List.mem_cons.1 h with rfl | h
    · omega
    · have := ih h
      omega

/-- what is read of a tree -/
theorem TreeAt.reads {B : Nat → Prop} {W : World} {t : Nat} {ls : List (List KV)} (h : TreeAt B W t ls) (hne : ls ≠ []) :
    ∃ rg lc, Box W t 47 #[.slice (some ⟨rg, 0, none⟩) ls.length lc, .int .i64 (total ls)] ∧ rg < W.heap.size ∧ ls.length ≤ lc ∧ lc ≤ maxLen ∧ ∀ i (h : i < ls.length), ∃ g c, W.cell? ⟨rg, i, none⟩ = some (.slice (some ⟨g, 0, none⟩) (ls[i]).length c) ∧ g < W.heap.size ∧ ((ls[i]).length ≤ c ∧ c ≤ maxLen) ∧
      ∀ j (hj : j < (ls[i]).length), W.cell? ⟨g, j * 2, none⟩ = some (.string ((ls[i])[j]).1) ∧ W.cell? ⟨g, j * 2 + 1, none⟩ = some ((ls[i])[j]).2 := by
  obtain ⟨_, hg, _, rv, ss, _, hb, hr, _, hl, _⟩ := h
  obtain ⟨la, lc, rfl, hc1, hc2⟩ := hr.form
  obtain ⟨rg, rfl, hB, hlt, hcells⟩ := hr.at_ (List.length_pos_iff.2 hne)
  refine ⟨rg, lc, hb, hlt, hc1, hc2, fun i hi => ?_⟩
  obtain ⟨s, e, hrow, _⟩ := hl.get i hi
  obtain ⟨a, c, rfl, hc3, hc4⟩ := hrow.form
  obtain ⟨g, rfl, hB2, hlt2, hcells2⟩ := hrow.at_ (List.length_pos_iff.2 (hg.1 _ (List.getElem_mem hi)))
  exact ⟨g, c, hcells _ _ e, hlt2, ⟨hc3, hc4⟩, fun j hj => ⟨hcells2 _ _ (ecells_at _ j hj).1, hcells2 _ _ (ecells_at _ j hj).2⟩⟩

theorem firstOf_get : ∀ {l : List KV} (h : 0 < l.length), firstOf l = (l[0]).1
  | [], h => by simp at h
  | _ :: _, _ => rfl

theorem firsts_at {ls : List (List KV)} (hg : GoodT ls) (i : Nat) (h : i < ls.length) (h2 : i < (firsts ls).length) : ∃ hj : 0 < (ls[i]).length, (firsts ls)[i] = ((ls[i])[0]).1 := by
  have hne := hg.1 _ (List.getElem_mem h)
  refine ⟨List.length_pos_iff.2 hne, ?_⟩
  simp only [firsts, List.getElem_map]
  exact firstOf_get _

/-- which leaf -/
theorem rows_any {B : Nat → Prop} {W : World} {t : Nat} {ls : List (List KV)} (h : TreeAt B W t ls) (key : ByteArray) {rg lc : Nat} (hrg : rg < W.heap.size) (hel : ∀ i (h : i < ls.length), ∃ g c, W.cell? ⟨rg, i, none⟩ = some (.slice (some ⟨g, 0, none⟩) (ls[i]).length c) ∧ g < W.heap.size ∧ ((ls[i]).length ≤ c ∧ c ≤ maxLen) ∧
      ∀ j (hj : j < (ls[i]).length), W.cell? ⟨g, j * 2, none⟩ = some (.string ((ls[i])[j]).1) ∧ W.cell? ⟨g, j * 2 + 1, none⟩ = some ((ls[i])[j]).2) :
    Calls Try.prog 35 #[.slice (some ⟨rg, 0, none⟩) ls.length lc, .string key, .func (.func 36) #[] #[]] W fun e w' => e = .returned (.tuple #[.int .i64 (atB (firsts ls) key : Nat), .bool (isB (firsts ls) key)]) ∧ Below W.heap.size W w' := by
  have hfl : (firsts ls).length = ls.length := by unfold firsts; simp
  have h1 := ls_le h.2.1.1
  have h2 := h.2.2.1
  have hs := searchR_any rg lc (firsts ls) key W hrg (by omega) h.2.1.firsts (fun i hi => by
    obtain ⟨g, c, e, hlt, _, hc⟩ := hel i (by omega)
    obtain ⟨hj, e2⟩ := firsts_at h.2.1 i (by omega) hi
    exact ⟨g, _, c, e, hj, by rw [e2]; have := (hc 0 hj).1; rwa [Nat.zero_mul] at this, hlt⟩)
  rw [hfl] at hs
  exact hs

/-- where in the leaf -/
theorem leaf_any {B : Nat → Prop} {W : World} {t : Nat} {ls : List (List KV)} (h : TreeAt B W t ls) (key : ByteArray) {i g c : Nat} (hi : i < ls.length) (hg : g < W.heap.size) (hc : ∀ j (hj : j < (ls[i]).length), W.cell? ⟨g, j * 2, none⟩ = some (.string ((ls[i])[j]).1) ∧ W.cell? ⟨g, j * 2 + 1, none⟩ = some ((ls[i])[j]).2) :
    Calls Try.prog 37 #[.slice (some ⟨g, 0, none⟩) (ls[i]).length c, .string key, .func (.func 38) #[] #[]] W fun e w' => e = .returned (.tuple #[.int .i64 (atB (keysOf ls[i]) key : Nat), .bool (isB (keysOf ls[i]) key)]) ∧ Below W.heap.size W w' := by
  have hfl : (keysOf ls[i]).length = (ls[i]).length := by unfold keysOf; simp
  have h1 := leaf_le (List.getElem_mem hi)
  have h2 := h.2.2.1
  have hs := search_any g c (keysOf ls[i]) key W hg (by omega) (h.2.1.leaf _ (List.getElem_mem hi)) (fun j hj => by
    obtain ⟨e1, e2⟩ := hc j (by omega)
    refine ⟨_, ?_, e2⟩
    rw [e1]
    simp only [keysOf, List.getElem_map])
  rw [hfl] at hs
  exact hs

set_option maxHeartbeats 4000000 in
set_option maxRecDepth 100000 in
theorem place_any {B : Nat → Prop} {W : World} {t : Nat} {ls : List (List KV)} (h : TreeAt B W t ls) (key : ByteArray) :
    Calls Try.prog 24 #[.pointer (some ⟨t, 0, none⟩), .string key] W fun e w' => e = .returned (.tuple #[.int .i64 ((placeT ls key).1 : Nat), .int .i64 ((placeT ls key).2.1 : Nat), .bool (placeT ls key).2.2]) ∧ Below W.heap.size W w' := by
  have hlen := len_any h
  by_cases h0 : ls = []
  · subst h0
    have hz : (total ([] : List (List KV)) : Int) = 0 := rfl
    rw [hz] at hlen
    clear hz h
    go_enter Try.func24, Try.ntmps24
    go_wp2_with fail
    refine hlen.mono ?_
    rintro e w1 ⟨rfl, rfl⟩
    go_wp2
    refine bodyPost_ret (v := .tuple #[.int .i64 0, .int .i64 0, .bool false]) (by simp [results, Try.results24, go_sem]) rfl ⟨rfl, Below.refl _ _⟩
  · have hz : ¬ (total ls : Int) = 0 := by
      intro e
      exact h0 ((total_zero h.2.1).1 (by omega))
    obtain ⟨rg, lc, hbx, hrg, hn1, hn2, hel⟩ := h.reads h0
    have hrows := rows_any h key hrg (lc := lc) hel
    have hlt := leafOf_lt h.2.1 h0 key
    have hlf : leafOf ls key = if isB (firsts ls) key then atB (firsts ls) key else atB (firsts ls) key - 1 := rfl
    obtain ⟨l, hl⟩ : ∃ l, ls[leafOf ls key]? = some l := ⟨_, List.getElem?_eq_getElem hlt⟩
    have hpl : placeT ls key = (leafOf ls key, atB (keysOf l) key, isB (keysOf l) key) := by
      unfold placeT
      rw [if_neg h0, List.getD_eq_getElem?_getD, hl]
      rfl
    obtain ⟨i, hi⟩ : ∃ i, i = leafOf ls key := ⟨_, rfl⟩
    obtain ⟨A, hA⟩ : ∃ A, A = atB (firsts ls) key := ⟨_, rfl⟩
    obtain ⟨D, hD⟩ : ∃ D, D = isB (firsts ls) key := ⟨_, rfl⟩
    rw [← hA, ← hD] at hrows hlf
    rw [← hi] at hlt hpl hlf hl
    have hAB : A ≤ 50000 := by
      have h1 := atB_le (firsts ls) key
      have h2 : (firsts ls).length = ls.length := by unfold firsts; simp
      have h3 := ls_le h.2.1.1
      have h4 := h.2.2.1
      omega
    have HAB := Lib.hid hAB
    have hc0 := hbx.cell 0
    simp only [List.getElem?_toArray, List.getElem?_cons_zero] at hc0
    have hbl := hbx.lt
    have HT := Lib.hid h
    have HROWS := Lib.hid hrows
    have HX := Lib.hid (And.intro hbx (And.intro hrg (And.intro hel (And.intro hpl (And.intro hlf (And.intro hlt hl))))))
    have hlnI : (i : Int) < (ls.length : Int) := by omega
    clear hbx hrows hel hpl hlf h hi hA hD hlt h0 hl hAB
    go_enter Try.func24, Try.ntmps24
    go_wp2_with fail
    refine hlen.mono ?_
    rintro e w1 ⟨rfl, rfl⟩
    go_wp2_with fail
    refine HROWS.out.mono ?_
    rintro e w2 ⟨rfl, hb2⟩
    obtain ⟨hbx, hrg2, hel, hpl, hlf, hlt, hl⟩ := HX.out
    obtain ⟨g, c, hcell, hg, hcc, hcs⟩ := hel i hlt
    have hc0' : w2.cell? ⟨t, 0, none⟩ = some (.slice (some ⟨rg, 0, none⟩) ls.length lc) := (hb2.cell (p := ⟨t, 0, none⟩) hbl).trans hc0
    have hcell' : w2.cell? ⟨rg, i, none⟩ = some (.slice (some ⟨g, 0, none⟩) (ls[i]).length c) := (hb2.cell (p := ⟨rg, i, none⟩) hrg2).trans hcell
    have hleaf := leaf_any (HT.out.below hb2) key (c := c) hlt (Nat.lt_of_lt_of_le hg hb2.size) (fun j hj => ⟨(hb2.cell (p := ⟨g, j * 2, none⟩) hg).trans (hcs j hj).1, (hb2.cell (p := ⟨g, j * 2 + 1, none⟩) hg).trans (hcs j hj).2⟩)
    have hl2 : ls[i] = l := by have h9 := List.getElem?_eq_getElem hlt; rw [hl] at h9; exact (Option.some.inj h9).symm
    rw [hl2] at hcell' hleaf
    have HLEAF := Lib.hid hleaf
    have HB2 := Lib.hid hb2
    have HPL := Lib.hid hpl
    have hln : i < ls.length := hlt
    have hbl2 : t < w2.heap.size := Nat.lt_of_lt_of_le hbl hb2.size
    have hrgl : rg < w2.heap.size := Nat.lt_of_lt_of_le hrg2 hb2.size
    cases D with
    | true =>
      have hiA : i = A := by simpa using hlf
      subst hiA
      clear hbx hel hlf hlt hcell hg hcc hcs hleaf hl hl2 hb2 hpl hc0 hbl hrg hrg2 hlen HROWS HX HT
      go_wp2_with fail
      refine HLEAF.out.mono ?_
      rintro e w3 ⟨rfl, hb3⟩
      have HF := Lib.hid (HB2.out.trans (hb3.mono HB2.out.size))
      clear hb3 HLEAF
      go_wp2
      exact bodyPost_ret (v := .tuple #[.int .i64 i, .int .i64 (atB (keysOf l) key : Nat), .bool (isB (keysOf l) key)]) (by simp [results, Try.results24, go_sem]) rfl ⟨by rw [HPL.out], HF.out⟩
    | false =>
      have hw : wrap64 ((A : Int) - 1) = (A : Int) - 1 := by have := HAB.out; unfold wrap64; omega
      have hiA : max ((A : Int) - 1) 0 = (i : Int) := by have : i = A - 1 := by simpa using hlf
                                                         omega
      clear hbx hel hlf hlt hcell hg hcc hcs hleaf hl hl2 hb2 hpl hc0 hbl hrg hrg2 hlen HROWS HX HT
      go_wp2_with fail
      refine HLEAF.out.mono ?_
      rintro e w3 ⟨rfl, hb3⟩
      have HF := Lib.hid (HB2.out.trans (hb3.mono HB2.out.size))
      clear hb3 HLEAF
      go_wp2
      exact bodyPost_ret (v := .tuple #[.int .i64 i, .int .i64 (atB (keysOf l) key : Nat), .bool (isB (keysOf l) key)]) (by simp [results, Try.results24, go_sem]) rfl ⟨by rw [HPL.out], HF.out⟩

end Go.Proofs.Ytkohmiegkebmeaa.tI
