/-
  tree: Get (trees of int).
-/
import Derived.Test.YtkohmiegkebmeaaTSpecI
namespace Go.Proofs.Ytkohmiegkebmeaa.tI
open Go.RowKit

def GetP (W : World) (o : Option Value) (e : Ending) (w' : World) : Prop := e = .returned (.tuple #[o.getD (.int .i64 0), .bool o.isSome]) ∧ Below W.heap.size W w'

set_option maxHeartbeats 1000000 in
set_option maxRecDepth 100000 in
theorem get_no {B : Nat → Prop} {W : World} {t : Nat} {ls : List (List KV)} (h : TreeAt B W t ls) (key : ByteArray) (hb : (placeT ls key).2.2 = false) :
    Calls Try.prog 13 #[.pointer (some ⟨t, 0, none⟩), .string key] W (GetP W none) := by
  have hp := place_any h key
  rw [hb] at hp
  obtain ⟨i, hi⟩ : ∃ i, i = (placeT ls key).1 := ⟨_, rfl⟩
  obtain ⟨j, hj⟩ : ∃ j, j = (placeT ls key).2.1 := ⟨_, rfl⟩
  rw [← hi, ← hj] at hp
  clear hi hj h hb
  go_enter Try.func13, Try.ntmps13
  go_wp2_with fail
  refine hp.mono ?_
  rintro e w1 ⟨rfl, hb1⟩
  have HB := Lib.hid hb1
  clear hb1 hp
  go_wp2
  exact bodyPost_ret (v := .tuple #[.int .i64 0, .bool false]) (by simp [results, Try.results13, go_sem]) rfl ⟨rfl, HB.out⟩

set_option maxHeartbeats 1000000 in
set_option maxRecDepth 100000 in
theorem get_is {B : Nat → Prop} {W : World} {t : Nat} {ls : List (List KV)} (h : TreeAt B W t ls) (key : ByteArray) (i j : Nat) (hi : i < ls.length) (hj : j < (ls[i]).length) (hp3 : placeT ls key = (i, j, true)) :
    Calls Try.prog 13 #[.pointer (some ⟨t, 0, none⟩), .string key] W (GetP W (some ((ls[i])[j]).2)) := by
  have hp := place_any h key
  rw [hp3] at hp
  dsimp only at hp
  have hne : ls ≠ [] := fun e => by rw [e] at hi; simp at hi
  obtain ⟨rg, lc, hbx, hrg, hn1, hn2, hel⟩ := h.reads hne
  obtain ⟨g, c, hcell, hg, hcc, hcs⟩ := hel i hi
  have hc0 := hbx.cell 0
  simp only [List.getElem?_toArray, List.getElem?_cons_zero] at hc0
  have hbl := hbx.lt
  have hcv := (hcs j hj).2
  obtain ⟨u, hu⟩ : ∃ u, u = ((ls[i])[j]).2 := ⟨_, rfl⟩
  rw [← hu] at hcv ⊢
  obtain ⟨m, hm⟩ : ∃ m, m = (ls[i]).length := ⟨_, rfl⟩
  rw [← hm] at hcell hcc hj
  have hjc : j < c := by omega
  have hic : i < lc := by omega
  have HX := Lib.hid (And.intro hc0 (And.intro hcell hcv))
  clear hu hm hel hcs hcv hcell hc0 hbx h hp3 hne
  go_enter Try.func13, Try.ntmps13
  go_wp2_with fail
  refine hp.mono ?_
  rintro e w1 ⟨rfl, hb1⟩
  have hc0' : w1.cell? ⟨t, 0, none⟩ = some (.slice (some ⟨rg, 0, none⟩) ls.length lc) := (hb1.cell (p := ⟨t, 0, none⟩) hbl).trans HX.out.1
  have hc1' : w1.cell? ⟨rg, i, none⟩ = some (.slice (some ⟨g, 0, none⟩) m c) := (hb1.cell (p := ⟨rg, i, none⟩) hrg).trans HX.out.2.1
  have hc2' : w1.cell? ⟨g, j * 2 + 1, none⟩ = some u := (hb1.cell (p := ⟨g, j * 2 + 1, none⟩) hg).trans HX.out.2.2
  have HB := Lib.hid hb1
  clear hb1 hp HX
  go_wp2
  exact bodyPost_ret (v := .tuple #[u, .bool true]) (by simp [results, Try.results13, go_sem]) rfl ⟨rfl, HB.out⟩

/-- all keys, cut at a place -/
theorem cut_spec {ls : List (List KV)} (hg : GoodT ls) (hne : ls ≠ []) (key : ByteArray) :
    ∃ A l C, ls = A ++ l :: C ∧ placeT ls key = (A.length, atB (keysOf l) key, isB (keysOf l) key) ∧ atB (keysOf l) key ≤ l.length ∧
      (∀ p ∈ A.flatten ++ l.take (atB (keysOf l) key), Lt p.1 key) ∧
      (isB (keysOf l) key = true → ∃ (h : atB (keysOf l) key < l.length), (l[atB (keysOf l) key]).1 = key ∧ ∀ p ∈ l.drop (atB (keysOf l) key + 1) ++ C.flatten, Lt key p.1) ∧
      (isB (keysOf l) key = false → ∀ p ∈ l.drop (atB (keysOf l) key) ++ C.flatten, Lt key p.1) := by
  obtain ⟨A, l, C, e, hp, hA, hC⟩ := place_spec hg hne key
  obtain ⟨h1, h2, h3, h4⟩ := leaf_split (hg.leaf l (by rw [e]; simp)) key
  refine ⟨A, l, C, e, hp, h1, fun p hp => ?_, fun hb => ?_, fun hb p hp => ?_⟩
  · rcases List.mem_append.1 hp with hp | hp
    · exact hA p hp
    · exact h2 p hp
  · obtain ⟨hj, e2, h5⟩ := h3 hb
    refine ⟨hj, e2, fun p hp => ?_⟩
    rcases List.mem_append.1 hp with hp | hp
    · exact h5 p hp
    · exact hC p hp
  · rcases List.mem_append.1 hp with hp | hp
    · exact h4 hb p hp
    · exact hC p hp

theorem flat_is {A : List (List KV)} {l : List KV} {C : List (List KV)} {j : Nat} (h : j < l.length) : (A ++ l :: C).flatten = (A.flatten ++ l.take j) ++ l[j] :: (l.drop (j + 1) ++ C.flatten) := by
  rw [List.flatten_append, List.flatten_cons, List.append_assoc]
  congr 1
  rw [← List.cons_append, ← List.drop_eq_getElem_cons h, ← List.append_assoc, List.take_append_drop]
theorem flat_no {A : List (List KV)} {l : List KV} {C : List (List KV)} (j : Nat) : (A ++ l :: C).flatten = (A.flatten ++ l.take j) ++ (l.drop j ++ C.flatten) := by
  rw [List.flatten_append, List.flatten_cons, List.append_assoc]
  congr 1
  rw [← List.append_assoc, List.take_append_drop]

theorem get_any {B : Nat → Prop} {W : World} {t : Nat} {ls : List (List KV)} (h : TreeAt B W t ls) (key : ByteArray) :
    Calls Try.prog 13 #[.pointer (some ⟨t, 0, none⟩), .string key] W (GetP W (getK ls.flatten key)) := by
  by_cases hne : ls = []
  · subst hne
    exact get_no h key rfl
  · obtain ⟨A, l, C, e, hp, h1, h2, h3, h4⟩ := cut_spec h.2.1 hne key
    obtain ⟨j, hj⟩ : ∃ j, j = atB (keysOf l) key := ⟨_, rfl⟩
    rw [← hj] at hp h1 h2 h4
    cases hb : isB (keysOf l) key with
    | true =>
      obtain ⟨hjl, hk, h5⟩ := h3 hb
      simp only [← hj] at hjl hk h5
      rw [hb] at hp
      subst e
      have hget : (A ++ l :: C)[A.length]? = some l := by simp
      have hlt : A.length < (A ++ l :: C).length := by simp
      have hel : (A ++ l :: C)[A.length] = l := by simp
      have hv : getK (A ++ l :: C).flatten key = some ((A ++ l :: C)[A.length][j]'(by rw [hel]; exact hjl)).2 := by
        rw [flat_is hjl]
        have h6 : l[j] = (key, (l[j]).2) := by rw [← hk]
        rw [h6, (ops_is (v := (l[j]).2) h2 h5).1]
        congr 2
        simp only [hel]
      rw [hv]
      exact get_is h key A.length j hlt (by rw [hel]; exact hjl) hp
    | false =>
      have h5 := h4 hb
      have hv : getK ls.flatten key = none := by
        rw [e, flat_no j, (ops_no h2 h5).1]
      rw [hv]
      exact get_no h key (by rw [hp, hb])

end Go.Proofs.Ytkohmiegkebmeaa.tI
