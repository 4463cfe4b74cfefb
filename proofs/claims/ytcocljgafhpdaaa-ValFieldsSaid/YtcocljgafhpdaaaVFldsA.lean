/-
  mailbaglaw02.Few.
  A value as an argument: its six cells.
  A slice of fields as an argument.
  The walk of mailbaglaw02.ValFields: where the law asks nothing.
  val's OfMap of no field.
  What OfMap keeps: names that rise.
  What OfMap keeps: of each name the last one that came.
  A map from names to values of any type that the call owns: the names rise in a plain list; look-up, store, delete at the operation's run. (Of no package: the map's and the values' types are arguments.)
  The law's map of the last field of each name, plainly; and what OfMap keeps.
  val's ofMap: the fields of a map.
  val's Get.
  val's Without.
  copy of elements of k cells each.
  slices.Insert of one field into a row of fields that the call owns.
  slices.Insert of one field into a row of fields that the call owns: inside.
  Get, plainly: of what OfMap keeps, of a map without a name, of a map with one more.
  Get and the look-up in the law's map, each with one answer for a name that is there and one that is not.
  val's With.
  mailbaglaw02.same, of a value and itself, wherever the two lie.
  A region that draws its order: operations that only read, then one call that makes memory and that all of them come ahead of, then operations that only read again (each of them behind the call).
  The states of the walk of mailbaglaw02.ValFields.
-/
import Derived.Test.YtcocljgafhpdaaaValHead
import Derived.Test.YtcocljgafhpdaaaValMem
import Derived.Test.YtcocljgafhpdaaaVClone2
import Derived.Test.YtcocljgafhpdaaaVOfMap2
import Derived.Outline
import Derived.WalkKit
import Derived.Maps.Own
import Derived.Maps.OwnOps
import Derived.StringKeys
import Derived.WideAt
import Derived.WideShapes
import Derived.Sort.KeysCollected
import Derived.Lib.Hide
import Derived.Test.YtcocljgafhpdaaaProg
import Derived.Test.YtcocljgafhpdaaaVApp
import Derived.Laws.IdiomCopy
import Derived.Test.YtcocljgafhpdaaaVOfMap
import Derived.Shelf.Spec.SlicesInsertGrow
import Derived.StillTailTactics
import Derived.Maps.RangeWalk
import Derived.Maps.OwnSet
import Derived.Sort.MapsRangeIn
section
namespace Go.Proofs.Ytcocljgafhpdaaa
open Go.RowKit

mutual
/-- has a value few parts, so deep in others? -/
def V.few : V → Int → Bool
  | .mk _ _ _ t l f, d => decide (d ≤ 6) && (decide (l.length ≤ 8) && (decide (f.length ≤ 8) && (decide (t.size ≤ 200) && (fewL l (d + 1) && fewF f (d + 1)))))
def fewL : List V → Int → Bool
  | [], _ => true
  | v :: l, d => v.few d && fewL l d
def fewF : List (ByteArray × V) → Int → Bool
  | [], _ => true
  | p :: l, d => (decide (p.1.size ≤ 40) && V.few p.2 d) && fewF l d
end

theorem fewL_iff {l : List V} {d : Int} : fewL l d = true ↔ ∀ v ∈ l, v.few d = true := by
  induction l with
  | nil => simp [fewL]
  | cons v l ih => simp [fewL, ih]
theorem fewF_iff {l : List Fd} {d : Int} : fewF l d = true ↔ ∀ p ∈ l, p.1.size ≤ 40 ∧ p.2.few d = true := by
  induction l with
  | nil => simp [fewF]
  | cons v l ih => simp only [fewF, ih, Bool.and_eq_true, decide_eq_true_eq, List.mem_cons, forall_eq_or_imp]

/-- a right value of few parts is short enough for lay -/
theorem fit_of_few : ∀ (N : Nat) (v : V) (d : Int) (r : Int), v.dep ≤ N → v.few d = true → v.right r = true → v.n64 → v.fit
  | 0, v, d, r, hd, _, _, _ => by
    cases v
    rw [V.dep] at hd
    omega
  | N + 1, .mk k y n t l f, d, r, hd, h, hr, hn => by
    have hdl : ∀ x ∈ l, x.dep ≤ N := fun x hx => by have := dep_list (v := .mk k y n t l f) hx; omega
    have hdf : ∀ p ∈ f, p.2.dep ≤ N := fun p hp => by have := dep_fields (v := .mk k y n t l f) hp; omega
    rw [V.few] at h
    simp only [Bool.and_eq_true, decide_eq_true_eq] at h
    obtain ⟨_, _, _, h4, h5, h6⟩ := h
    rw [V.right, Bool.and_eq_true, Bool.and_eq_true, Bool.and_eq_true, decide_eq_true_eq, plain_iff] at hr
    obtain ⟨⟨⟨_, ⟨h0, h1⟩, _⟩, hL⟩, hF⟩ := hr
    obtain ⟨n1, n2, n3⟩ := hn
    refine ⟨⟨h0, h1⟩, n1, by omega, fitL_iff.2 fun x hx => ?_, fitF_iff.2 fun p hp => ?_⟩
    · exact fit_of_few N x _ _ (hdl x hx) (fewL_iff.1 h5 x hx) (rightL_iff.1 hL x hx) (n64L_iff.1 n2 x hx)
    · obtain ⟨g1, g2⟩ := fewF_iff.1 h6 p hp
      obtain ⟨i, hi, rfl⟩ := List.getElem_of_mem hp
      exact ⟨by omega, fit_of_few N _ _ _ (hdf _ hp) g2 (rightF_iff.1 hF i hi).1 (n64F_iff.1 n3 _ hp)⟩

def FewOK (N : Nat) : Prop := ∀ (v : V) (d : Int) (lv fv : Value) (w : World), v.dep ≤ N → 0 ≤ d → d ≤ 1000 → v.Is w lv fv →
  Calls Try.prog 11 #[.agg #[.int .i64 v.kind, .bool v.yes, .int .i64 v.num, .string v.text, lv, fv], .int .i64 d] w fun e w' => e = .returned (.bool (v.few d)) ∧ Below w.heap.size w w'

set_option maxHeartbeats 4000000 in
set_option maxRecDepth 100000 in
theorem few_step (N : Nat) (ih : FewOK N) : FewOK (N + 1) := by
  intro v d lv fv w hdep hd0 hd1 his
  obtain ⟨⟨a, c, rfl⟩, ⟨a', c', rfl⟩, hLb, hFb⟩ := his.len
  obtain ⟨k, y, n, t, l, f⟩ := v
  have hdl : ∀ x ∈ l, x.dep ≤ N := fun x hx => by have := dep_list (v := .mk k y n t l f) hx; omega
  have hdf : ∀ p ∈ f, p.2.dep ≤ N := fun p hp => by have := dep_fields (v := .mk k y n t l f) hp; omega
  have HDL := Lib.hid hdl
  have HDF := Lib.hid hdf
  clear hdl hdf hdep
  simp only [V.kind, V.yes, V.num, V.text, V.list, V.fields] at *
  have hr : Hid ((V.mk k y n t l f).few d = (decide (d ≤ 6) && (decide (l.length ≤ 8) && (decide (f.length ≤ 8) && (decide (t.size ≤ 200) && (fewL l (d + 1) && fewF f (d + 1))))))) := Lib.hid rfl
  have hb0 := ((Below.refl _ w).alloc (Nat.le_refl _) (.cells #[.int .i64 k, .bool y, .int .i64 n, .string t, .slice a l.length c, .slice a' f.length c'] 26))
  by_cases h1 : 6 < d
  · have hE : Hid ((V.mk k y n t l f).few d = false) := Lib.hid (by rw [hr.out, decide_eq_false (by omega)]; rfl)
    go_enter Try.func11, Try.ntmps11
    go_wp2
    go_ret
    exact ⟨ret_bool2 hE.out.symm, hb0⟩
  by_cases h2 : 8 < l.length
  · have hE : Hid ((V.mk k y n t l f).few d = false) := Lib.hid (by rw [hr.out, decide_eq_false (p := l.length ≤ 8) (by omega)]; simp)
    have h2' : (8 : Int) < (l.length : Int) := by omega
    go_enter Try.func11, Try.ntmps11
    go_wp2
    go_ret
    exact ⟨ret_bool2 hE.out.symm, hb0⟩
  have h2' : ¬ (8 : Int) < (l.length : Int) := by omega
  by_cases h3 : 8 < f.length
  · have hE : Hid ((V.mk k y n t l f).few d = false) := Lib.hid (by rw [hr.out, decide_eq_false (p := f.length ≤ 8) (by omega)]; simp)
    have h3' : (8 : Int) < (f.length : Int) := by omega
    go_enter Try.func11, Try.ntmps11
    go_wp2
    go_ret
    exact ⟨ret_bool2 hE.out.symm, hb0⟩
  have h3' : ¬ (8 : Int) < (f.length : Int) := by omega
  by_cases h4 : 200 < t.size
  · have hE : Hid ((V.mk k y n t l f).few d = false) := Lib.hid (by rw [hr.out, decide_eq_false (p := t.size ≤ 200) (by omega)]; simp)
    have h4' : (200 : Int) < (t.size : Int) := by omega
    go_enter Try.func11, Try.ntmps11
    go_wp2
    go_ret
    exact ⟨ret_bool2 hE.out.symm, hb0⟩
  have h4' : ¬ (200 : Int) < (t.size : Int) := by omega
  have hr2 : Hid ((V.mk k y n t l f).few d = (fewL l (d + 1) && fewF f (d + 1))) := Lib.hid (by rw [hr.out, decide_eq_true (p := d ≤ 6) (by omega), decide_eq_true (p := l.length ≤ 8) (by omega), decide_eq_true (p := f.length ≤ 8) (by omega), decide_eq_true (p := t.size ≤ 200) (by omega)]; simp)
  have hnl : ∀ (q : Nat) (h : q < l.length), l[q].few (d + 1) = false → Hid ((V.mk k y n t l f).few d = false) := fun q h e => Lib.hid (by
    rw [hr2.out, show fewL l (d + 1) = false by
      rw [Bool.eq_false_iff]; intro hh; rw [fewL_iff.1 hh _ (List.getElem_mem h)] at e; cases e]
    simp)
  have HNL := Lib.hid hnl
  have hnf : ∀ (q : Nat) (h : q < f.length), ¬ ((f[q]).1.size ≤ 40 ∧ (f[q]).2.few (d + 1) = true) → Hid ((V.mk k y n t l f).few d = false) := fun q h e => Lib.hid (by
    rw [hr2.out, show fewF f (d + 1) = false by
      rw [Bool.eq_false_iff]; intro hh; exact e (fewF_iff.1 hh _ (List.getElem_mem h))]
    simp)
  have HNF := Lib.hid hnf
  clear hnl hnf hr h2 h3 h4
  go_enter Try.func11, Try.ntmps11
  go_wp2_with fail
  go_loopw [32] (fun i wr => ∃ j : Nat, j ≤ l.length ∧ i = .int .i64 j ∧ Below w.heap.size w wr ∧ (∀ o : Nat, wr.cell? ⟨w.heap.size, o, none⟩ = (w.alloc (.cells #[.int .i64 k, .bool y, .int .i64 n, .string t, .slice a l.length c, .slice a' f.length c'] 26)).cell? ⟨w.heap.size, o, none⟩) ∧ w.heap.size < wr.heap.size ∧ ∀ (q : Nat) (h : q < l.length), q < j → l[q].few (d + 1) = true) (fun i _ => l.length - (intOf i).toNat)
  case atStart => exact ⟨0, Nat.zero_le _, rfl, hb0, fun _ => rfl, by simp, fun q h hq => by omega⟩
  case round =>
    obtain ⟨j, hj, rfl, hbr, hcells, hlt0, hall⟩ := hrel
    have hzr := hbr.size
    have HALL := Lib.hid hall
    have HC := Lib.hid hcells
    clear hall hcells
    by_cases hjl : j < l.length
    · obtain ⟨b, off, cc, lv', fv', e1, hbl, hin, hel⟩ := (his.below hbr).elem (i := j) hjl
      injection e1 with e1 e3 e2
      clear e3
      subst e1 e2
      have hxd := HDL.out _ (List.getElem_mem hjl)
      obtain ⟨q0, q1, q2, q3, q4, q5⟩ := hin.six
      have hno := HNL.out j hjl
      simp only [V.list] at q0 q1 q2 q3 q4 q5 hel
      have hall' : l[j].few (d + 1) = true → Hid (∀ (q : Nat) (h : q < l.length), q < j + 1 → l[q].few (d + 1) = true) := fun e => Lib.hid (fun q h hq => by
        by_cases e2 : q = j
        · subst e2; exact e
        · exact HALL.out q h (by omega))
      generalize l[j] = x at q0 q1 q2 q3 q4 q5 hel hxd hno hall'
      obtain ⟨⟨ax, cx, rfl⟩, ⟨ax', cx', rfl⟩, _, _⟩ := hel.len
      have hjl' : (j : Int) < (l.length : Int) := by omega
      have hb1 : Below wr.heap.size wr (wr.alloc (.cells #[.int .i64 x.kind, .bool x.yes, .int .i64 x.num, .string x.text, .slice ax x.list.length cx, .slice ax' x.fields.length cx'] 26)) := (Below.refl _ _).alloc (Nat.le_refl _) _
      have hcall := ih x (d + 1) _ _ _ hxd (by omega) (by omega) (V.Is.below hel hb1)
      clear hin hel
      cases hx : x.few (d + 1)
      · rw [hx] at hcall
        have HF := hno hx
        clear hno hall' hx
        go_wp2_with fail
        refine hcall.mono ?_
        rintro e w2 ⟨rfl, hb2'⟩
        have hb2 := hbr.trans ((hb1.trans (hb2'.mono (by simp))).mono hzr)
        clear hcall hb2'
        go_wp2
        go_ret
        exact ⟨ret_bool2 HF.out.symm, hb2⟩
      · rw [hx] at hcall
        have HT := hall' hx
        clear hno hall' hx
        go_wp2_with fail
        refine hcall.mono ?_
        rintro e w2 ⟨rfl, hb2'⟩
        have hb21 := hb1.trans (hb2'.mono (by simp))
        have hb2 := hbr.trans (hb21.mono hzr)
        have HC2 : Hid (∀ o : Nat, w2.cell? ⟨w.heap.size, o, none⟩ = (w.alloc (.cells #[.int .i64 k, .bool y, .int .i64 n, .string t, .slice (some ⟨b, off, none⟩) l.length c, .slice a' f.length c'] 26)).cell? ⟨w.heap.size, o, none⟩) := Lib.hid (fun o => (hb21.cell (p := ⟨w.heap.size, o, none⟩) hlt0).trans (HC.out o))
        have hlt2 : w.heap.size < w2.heap.size := Nat.lt_of_lt_of_le hlt0 hb21.size
        clear hcall hb2' hb21
        go_wp2
        go_roundw
        case rel => exact ⟨j + 1, by omega, by go_num, hb2, HC2.out, hlt2, HT.out⟩
        case measure => simp [intOf]; omega
    · have hge : ¬ (j : Int) < (l.length : Int) := by omega
      have hL : Hid (fewL l (d + 1) = true) := Lib.hid (fewL_iff.2 fun x hx => by
        obtain ⟨q, hq, rfl⟩ := List.getElem_of_mem hx
        exact HALL.out q hq (by omega))
      have hcf2 : wr.cell? ⟨w.heap.size, 5, none⟩ = some (.slice a' f.length c') := by rw [HC.out 5]; simp
      clear hjl HNL HALL HC
      go_wp2
      go_loopw [45] (fun i wr => ∃ j : Nat, j ≤ f.length ∧ i = .int .i64 j ∧ Below w.heap.size w wr ∧ ∀ (q : Nat) (h : q < f.length), q < j → (f[q]).1.size ≤ 40 ∧ (f[q]).2.few (d + 1) = true) (fun i _ => f.length - (intOf i).toNat)
      case atStart => exact ⟨0, Nat.zero_le _, rfl, hbr, fun q h hq => by omega⟩
      case round =>
        clear hbr hzr hcf2 hge hj hlt0
        obtain ⟨j, hj, rfl, hbr, hall⟩ := hrel
        have hzr := hbr.size
        have HALL := Lib.hid hall
        clear hall
        by_cases hjl : j < f.length
        · obtain ⟨b, off, cc, e1, hbl, hFC⟩ := (his.below hbr).fcells (by show 0 < f.length; omega)
          injection e1 with e1 e3 e2
          clear e3
          subst e1 e2
          simp only [V.fields] at hFC
          obtain ⟨lv', fv', hin, (hel : (f[j]).2.Is wr lv' fv')⟩ := hFC.get hjl
          have hxd := HDF.out _ (List.getElem_mem hjl)
          obtain ⟨q0, q1, q2, q3, q4, q5, q6⟩ := hin.seven
          have hno := HNF.out j hjl
          have hall' : (f[j]).1.size ≤ 40 ∧ (f[j]).2.few (d + 1) = true → Hid (∀ (q : Nat) (h : q < f.length), q < j + 1 → (f[q]).1.size ≤ 40 ∧ (f[q]).2.few (d + 1) = true) := fun g1 => Lib.hid (fun q h hq => by
            by_cases e2 : q = j
            · subst e2; exact g1
            · exact HALL.out q h (by omega))
          have hjl' : (j : Int) < (f.length : Int) := by omega
          generalize (f[j]).1 = nm at q0 hno hall'
          generalize (f[j]).2 = x at q1 q2 q3 q4 q5 q6 hel hxd hno hall'
          obtain ⟨⟨ax, cx, rfl⟩, ⟨ax', cx', rfl⟩, _, _⟩ := hel.len
          have hb1 : Below wr.heap.size wr (wr.alloc (.cells #[.string nm, .int .i64 x.kind, .bool x.yes, .int .i64 x.num, .string x.text, .slice ax x.list.length cx, .slice ax' x.fields.length cx'] 30)) := (Below.refl _ _).alloc (Nat.le_refl _) _
          have hb1w := hbr.trans (hb1.mono hzr)
          clear hin hFC
          by_cases hn : 40 < nm.size
          · have hn' : (40 : Int) < (nm.size : Int) := by omega
            have HF := hno (by omega)
            clear hno hall' hel
            go_wp2
            go_ret
            exact ⟨ret_bool2 HF.out.symm, hb1w⟩
          · have hn' : ¬ (40 : Int) < (nm.size : Int) := by omega
            have hcall := ih x (d + 1) _ _ _ hxd (by omega) (by omega) (V.Is.below hel hb1)
            clear hel
            cases hx : x.few (d + 1)
            · rw [hx] at hcall
              have HF := hno (by rw [hx]; simp)
              clear hno hall' hx
              go_wp2_with fail
              refine hcall.mono ?_
              rintro e w2 ⟨rfl, hb2'⟩
              have hb2 := hbr.trans ((hb1.trans (hb2'.mono (by simp))).mono hzr)
              clear hcall hb2'
              go_wp2
              go_ret
              exact ⟨ret_bool2 HF.out.symm, hb2⟩
            · rw [hx] at hcall
              have HT := hall' ⟨by omega, hx⟩
              clear hno hall' hx
              go_wp2_with fail
              refine hcall.mono ?_
              rintro e w2 ⟨rfl, hb2'⟩
              have hb2 := hbr.trans ((hb1.trans (hb2'.mono (by simp))).mono hzr)
              clear hcall hb2'
              go_wp2
              go_roundw
              case rel => exact ⟨j + 1, by omega, by go_num, hb2, HT.out⟩
              case measure => simp [intOf]; omega
        · have hge : ¬ (j : Int) < (f.length : Int) := by omega
          have hF : Hid (fewF f (d + 1) = true) := Lib.hid (fewF_iff.2 fun p hp => by
            obtain ⟨q, hq, rfl⟩ := List.getElem_of_mem hp
            exact HALL.out q hq (by omega))
          clear hjl HNF HALL
          go_wp2
          go_ret
          exact ⟨ret_bool2 (by rw [hr2.out, hL.out, hF.out]; rfl), hbr⟩

theorem few_all : ∀ N, FewOK N
  | 0 => fun v d lv fv w hd _ _ _ => by
    cases v
    rw [V.dep] at hd
    omega
  | N + 1 => few_step N (few_all N)

theorem few_any (v : V) (lv fv : Value) (w : World) (h : v.Is w lv fv) :
    Calls Try.prog 11 #[.agg #[.int .i64 v.kind, .bool v.yes, .int .i64 v.num, .string v.text, lv, fv], .int .i64 0] w fun e w' => e = .returned (.bool (v.few 0)) ∧ Below w.heap.size w w' :=
  few_all v.dep v 0 lv fv w (Nat.le_refl _) (by omega) (by omega) h

end Go.Proofs.Ytcocljgafhpdaaa
end

section
namespace Go.Proofs.Ytcocljgafhpdaaa
open Go.ChangeShapes Go.WideShapes Go.ChangeAt Go.RowKit Go.Deep Go.Joins

theorem val_arg {H : Type} {enc : TypeId × Value → H} {W : World} {base : Nat} {sp : Nat → Bool} {held : Bool} {v : Value} {d : DataW H} {ps : List MemPlace}
    (h : DataW.Trod enc Try.prog W base sp held 26 v d ps) :
    ∃ (x : V) (lv fv : Value), v = .agg #[.int .i64 x.kind, .bool x.yes, .int .i64 x.num, .string x.text, lv, fv] ∧ x.Is W lv fv ∧ x.n64 := by
  obtain ⟨fuel, hf⟩ := h
  obtain ⟨x, lv, fv, hc, h1, h2, _⟩ := val_came hf
  refine ⟨x, lv, fv, ?_, h1, h2⟩
  cases v with
  | agg cs =>
    have hc : cs.toList = x.cells lv fv := by simpa [Value.cells] using hc
    rw [show cs = (x.cells lv fv).toArray by rw [← hc]]
    rfl
  | _ => simp [Value.cells, V.cells] at hc

end Go.Proofs.Ytcocljgafhpdaaa
end

section
namespace Go.Proofs.Ytcocljgafhpdaaa
open Go.ChangeShapes Go.WideShapes Go.ChangeAt Go.RowKit Go.Deep Go.Joins

def FldsCame (W : World) (a : Option Addr) (len cap : Nat) (fs : List Fd) : Prop := fs.length = len ∧ FAt W All fs (.slice a len cap)

set_option maxRecDepth 100000 in
theorem flds_arg {H : Type} {enc : TypeId × Value → H} {W : World} {a : Option Addr} {len cap : Nat} {base : Nat} {sp : Nat → Bool} {held : Bool} {d : DataW H} {ps : List MemPlace}
    (h : DataW.Trod enc Try.prog W base sp held 22 (.slice a len cap) d ps) : ∃ fs, FldsCame W a len cap fs := by
  obtain ⟨fuel, hf⟩ := h
  match fuel, hf with
  | 0, hf => simp [DataW.trod] at hf
  | m + 1, hf =>
    obtain ⟨a', len', c', e5, hl', hm', hA'⟩ := slice_came Try.underlying22 7 cellsField (by decide) hf
    have e5 : Value.slice a len cap = .slice a' len' c' := by simpa [Value.cells] using e5
    obtain ⟨rfl, rfl, rfl⟩ : a = a' ∧ len = len' ∧ cap = c' := by injection e5 with h1 h2 h3; exact ⟨h1, h2, h3⟩
    rcases hA' with rfl | ⟨b, off, ea, hb, hel⟩
    · exact ⟨[], rfl, _, _, rfl, hl', hm', .inl rfl⟩
    · obtain ⟨l, hll, hp⟩ := choose_lists (p := fun i (p : Fd) => (∃ lv fv, InAt W b (off + i * 7) (.string p.1 :: p.2.cells lv fv) ∧ p.2.At W All lv fv)) len fun i hi => by
        obtain ⟨cs', z, g1, g2⟩ := hel i hi
        obtain ⟨z0, z1, q, rfl, hlen7, j0, j1⟩ := trod_two Try.underlying30 g2
        rw [cellsField] at hlen7
        match cs', hlen7 with
        | [d0, d1, d2, d3, d4, d5, d6], _ =>
          have j0 : DataW.trod enc Try.prog W base sp held q 9 ([d0, d1, d2, d3, d4, d5, d6].take (Try.prog.cellsOf 9)) = some z0 := j0
          have j1 : DataW.trod enc Try.prog W base sp held q 26 ([d1, d2, d3, d4, d5, d6].take (Try.prog.cellsOf 26)) = some z1 := j1
          rw [show Try.prog.cellsOf 9 = 1 by kernel_rfl] at j0
          rw [cellsVal] at j1
          obtain ⟨nm, e6, _, _⟩ := DataW.trod_string Try.underlying9 (show DataW.trod enc Try.prog W base sp held q 9 [d0] = some z0 from j0)
          have e6 : d0 = .string nm := by
            have : [d0] = [.string nm] := e6
            simpa using this
          obtain ⟨v, lv, fv, q1, q2, q3, _⟩ := val_came (show DataW.trod enc Try.prog W base sp held q 26 [d1, d2, d3, d4, d5, d6] = some z1 from j1)
          exact ⟨(nm, v), lv, fv, by rw [e6, q1] at g1; exact g1, q2⟩
      subst hll
      exact ⟨l, rfl, _, _, rfl, hl', hm', .inr ⟨b, off, ea, trivial, hb, FCells.mk fun i hi => hp i hi⟩⟩

end Go.Proofs.Ytcocljgafhpdaaa
end

section
namespace Go.Proofs.Ytcocljgafhpdaaa.valFields
open Go.RowKit

/-- x's box, and nothing older written -/
def XB (w : World) (cs : Array Value) (W : World) : Prop := Below w.heap.size w W ∧ Box W w.heap.size 26 cs

theorem XB.new (w : World) (cs : Array Value) : XB w cs (w.alloc (.cells cs 26)) := ⟨(Below.refl _ w).alloc (Nat.le_refl _) _, Box.new w _ _⟩
theorem XB.below {w W W' : World} {cs : Array Value} (h : XB w cs W) (hb : Below W.heap.size W W') : XB w cs W' := ⟨h.1.trans (hb.mono h.1.size), (hb.block _ h.2.lt).trans h.2⟩

/-- a field that the law takes -/
def okF (p : Fd) : Bool := decide (p.1.size ≤ 60) && p.2.few 0

set_option maxHeartbeats 4000000 in
set_option maxRecDepth 100000 in
theorem walk_out {w : World} (a : Option Addr) (len cap : Nat) (fs : List Fd) (hc : FldsCame w a len cap fs) (nm : ByteArray) (x : V) (lv fv : Value) (hx : x.Is w lv fv) (h : ¬ (len ≤ 20 ∧ nm.size ≤ 60 ∧ x.few 0 = true ∧ ∀ p ∈ fs, okF p = true)) :
    Calls Try.prog 3 #[.slice a len cap, .string nm, .agg #[.int .i64 x.kind, .bool x.yes, .int .i64 x.num, .string x.text, lv, fv]] w fun e w' => e = .returned (.bool true) ∧ Below w.heap.size w w' := by
  obtain ⟨⟨px, pc, rfl⟩, ⟨py, pd, rfl⟩, _, _⟩ := hx.len
  have HB0 := Lib.hid (XB.new w #[.int .i64 x.kind, .bool x.yes, .int .i64 x.num, .string x.text, .slice px x.list.length pc, .slice py x.fields.length pd])
  have HX := Lib.hid hx
  obtain ⟨rfl, a', c', e0, hc1, hc2, hcl⟩ := hc
  obtain ⟨rfl, rfl⟩ : a = a' ∧ cap = c' := by injection e0 with h1 h2 h3; exact ⟨h1, h3⟩
  have HC := Lib.hid hcl
  clear hcl hx e0
  by_cases h20 : 20 < fs.length
  · have h1 : (20 : Int) < (fs.length : Int) := by omega
    clear h
    go_enter Try.func3, Try.ntmps3
    go_wp2_with fail
    refine (head_any _).mono ?_
    rintro e w1 ⟨rfl, hb1⟩
    have H1 := Lib.hid (HB0.out.below hb1).1
    clear hb1
    go_wp2
    go_ret
    exact ⟨rfl, H1.out⟩
  have h1 : ¬ (20 : Int) < (fs.length : Int) := by omega
  by_cases h60 : 60 < nm.size
  · have h2 : (60 : Int) < (nm.size : Int) := by omega
    clear h
    go_enter Try.func3, Try.ntmps3
    go_wp2_with fail
    refine (head_any _).mono ?_
    rintro e w1 ⟨rfl, hb1⟩
    have H1 := Lib.hid (HB0.out.below hb1).1
    clear hb1
    go_wp2
    go_ret
    exact ⟨rfl, H1.out⟩
  have h2 : ¬ (60 : Int) < (nm.size : Int) := by omega
  cases hf : x.few 0
  · clear h
    go_enter Try.func3, Try.ntmps3
    go_wp2_with fail
    refine (head_any _).mono ?_
    rintro e w1 ⟨rfl, hb1⟩
    have hxb := HB0.out.below hb1
    have hfew := few_any x _ _ w1 (HX.out.below hxb.1)
    rw [hf] at hfew
    obtain ⟨⟨x0, x1, x2, x3, x4, x5⟩, _⟩ := hxb.2.six
    have H1 := Lib.hid hxb
    have HFW := Lib.hid hfew
    clear hb1 hxb hfew hf
    go_wp2_with fail
    refine HFW.out.mono ?_
    rintro e w2 ⟨rfl, hb2⟩
    have H2 := Lib.hid (H1.out.below hb2).1
    clear hb2
    go_wp2
    go_ret
    exact ⟨rfl, H2.out⟩
  have hbad : ¬ ∀ p ∈ fs, okF p = true := fun hp => h ⟨by omega, by omega, hf, hp⟩
  have HBAD := Lib.hid hbad
  clear h hbad
  go_enter Try.func3, Try.ntmps3
  go_wp2_with fail
  refine (head_any _).mono ?_
  rintro e w1 ⟨rfl, hb1⟩
  have hxb := HB0.out.below hb1
  have hfew := few_any x _ _ w1 (HX.out.below hxb.1)
  rw [hf] at hfew
  obtain ⟨⟨x0, x1, x2, x3, x4, x5⟩, _⟩ := hxb.2.six
  have H1 := Lib.hid hxb
  have HFW := Lib.hid hfew
  clear hb1 hxb hfew hf
  go_wp2_with fail
  refine HFW.out.mono ?_
  rintro e w2 ⟨rfl, hb2⟩
  have H2 := Lib.hid (H1.out.below hb2)
  clear hb2 x0 x1 x2 x3 x4 x5 H1 HFW HB0
  go_wp2_with fail
  go_loopw [50] (fun i wr => ∃ k : Nat, k ≤ fs.length ∧ i = .int .i64 k ∧ Hid (XB w #[.int .i64 x.kind, .bool x.yes, .int .i64 x.num, .string x.text, .slice px x.list.length pc, .slice py x.fields.length pd] wr ∧ ∀ j (h : j < fs.length), j < k → okF (fs[j]) = true)) (fun i _ => fs.length - (intOf i).toNat)
  case atStart => exact ⟨0, Nat.zero_le _, rfl, Lib.hid ⟨H2.out, fun j _ hj => by omega⟩⟩
  case round =>
    obtain ⟨k, hk, rfl, HR⟩ := hrel
    clear H2
    by_cases hlt : k < fs.length
    · obtain ⟨hxb, hok⟩ := HR.out
      obtain ⟨b, off, rfl, hb, hC⟩ : ∃ b off, a = some ⟨b, off, none⟩ ∧ b < w.heap.size ∧ FCells wr All b off fs := by
        rcases HC.out with h | ⟨b0, off, ea, _, hb0, hC⟩
        · rw [h] at hlt; simp at hlt
        · exact ⟨b0, off, ea, hb0, FCells.keepAll hC hxb.1 hb0⟩
      obtain ⟨ql, qf, hin, hel⟩ := hC.get hlt
      have hnext : okF (fs[k]) = true → ∀ j (h : j < fs.length), j < k + 1 → okF (fs[j]) = true := fun hp j h hj => by
        by_cases e : j = k
        · subst e; exact hp
        · exact hok j h (by omega)
      obtain ⟨p, hpe⟩ : ∃ p, p = fs[k] := ⟨_, rfl⟩
      rw [← hpe] at hin hel hnext
      replace hel : p.2.Is wr ql qf := hel
      obtain ⟨⟨qx, qc, rfl⟩, ⟨qy, qd, rfl⟩, _, _⟩ := hel.len
      replace hin : InAt wr b (off + k * 7) (.string p.1 :: p.2.cells (.slice qx p.2.list.length qc) (.slice qy p.2.fields.length qd)) := hin
      obtain ⟨p0, p1, p2, p3, p4, p5, p6⟩ := hin.seven
      have hkl : (k : Int) < (fs.length : Int) := by omega
      have hA : Below wr.heap.size wr (wr.alloc (.cells #[.string p.1, .int .i64 p.2.kind, .bool p.2.yes, .int .i64 p.2.num, .string p.2.text, .slice qx p.2.list.length qc, .slice qy p.2.fields.length qd] 30)) := (Below.refl _ wr).alloc (Nat.le_refl _) _
      have hfw := few_any p.2 _ _ (wr.alloc (.cells #[.string p.1, .int .i64 p.2.kind, .bool p.2.yes, .int .i64 p.2.num, .string p.2.text, .slice qx p.2.list.length qc, .slice qy p.2.fields.length qd] 30)) (hel.below hA)
      have hxa := hxb.below hA
      have HLT := Lib.hid hlt
      have HXA := Lib.hid hxa
      by_cases hn : 60 < p.1.size
      · have hn' : (60 : Int) < (p.1.size : Int) := by omega
        clear hC hin hel hnext hfw hxa hxb hok hA hpe hlt HR
        go_wp2
        go_ret
        exact ⟨rfl, HXA.out.1⟩
      · have hn' : ¬ (60 : Int) < (p.1.size : Int) := by omega
        cases hpf : p.2.few 0
        · rw [hpf] at hfw
          have HFW := Lib.hid hfw
          clear hC hin hel hnext hfw hxa hxb hok hA hpe hlt hpf HR
          go_wp2_with fail
          refine HFW.out.mono ?_
          rintro e w4 ⟨rfl, hb4⟩
          have H4 := Lib.hid (HXA.out.below hb4).1
          clear hb4
          go_wp2
          go_ret
          exact ⟨rfl, H4.out⟩
        · rw [hpf] at hfw
          have HFW := Lib.hid hfw
          have HN := Lib.hid (hnext (by unfold okF; rw [hpf, Bool.and_true]; exact decide_eq_true (by omega)))
          clear hC hin hel hnext hfw hxa hxb hok hA hpe hlt hpf HR
          go_wp2_with fail
          refine HFW.out.mono ?_
          rintro e w4 ⟨rfl, hb4⟩
          have H4 := Lib.hid (And.intro (HXA.out.below hb4) HN.out)
          clear hb4
          go_wp2
          go_roundw
          case rel => exact ⟨k + 1, by have := HLT.out; omega, by have := HLT.out; go_num, H4⟩
          case measure => have := HLT.out; simp [intOf]; omega
    · exact absurd (fun p hp => by
        obtain ⟨j, hj, rfl⟩ := List.getElem_of_mem hp
        exact HR.out.2 j hj (by omega)) HBAD.out

end Go.Proofs.Ytcocljgafhpdaaa.valFields
end

section
namespace Go.Proofs.Ytcocljgafhpdaaa
open Go.RowKit Go.Sort

theorem kept_none : keptF #[] = [] := rfl

set_option maxHeartbeats 1000000 in
theorem stable_none (a : Option Addr) (cap : Nat) (w : World) :
    Calls Try.prog 34 #[.slice a 0 cap, .func (.func 35) #[] #[]] w fun e w' => e = .returned (.tuple #[]) ∧ w = w' := by
  have hins : ∀ w, Calls Try.prog 83 #[.slice a 0 cap, .int .i64 0, .int .i64 0, .func (.func 35) #[] #[]] w fun e w' => e = .returned (.tuple #[]) ∧ w = w' := fun w => by
    go_enter Try.func83, Try.ntmps83
    go_wp2_with fail
    refine wp_loop_rounds 1 ?_
    rw [rounds_succ]
    go_wp2
    go_end0
    exact ⟨rfl, rfl⟩
  have hst : ∀ w, Calls Try.prog 55 #[.slice a 0 cap, .int .i64 0, .func (.func 35) #[] #[]] w fun e w' => e = .returned (.tuple #[]) ∧ w = w' := fun w => by
    go_enter Try.func55, Try.ntmps55
    go_wp2_with fail
    refine wp_loop_rounds 1 ?_
    rw [rounds_succ]
    go_wp2_with fail
    refine (hins _).mono ?_
    rintro e w1 ⟨rfl, rfl⟩
    go_wp2_with fail
    refine wp_loop_rounds 1 ?_
    rw [rounds_succ]
    go_wp2
    go_end0
    exact ⟨rfl, rfl⟩
  go_enter Try.func34, Try.ntmps34
  go_wp2_with fail
  refine (hst _).mono ?_
  rintro e w1 ⟨rfl, rfl⟩
  go_wp2
  go_end0
  exact ⟨rfl, rfl⟩

theorem wpList_app_zero {ops : Array Oper} {rest : List Oper} {o : Oper} {a : Act} {w : World} {Q : Exit → Act → World → Prop} (hgd : o.guard = none) (s x : Operand)
    (ho : o.op = .call { callee := .builtin .append, args := #[s, x], argTypes := #[22, 22] })
    (g off cap : Nat) (hs : a.eval s = .slice (some ⟨g, off, none⟩) 0 cap) (ad : Addr) (c : Nat) (hx : a.eval x = .slice (some ad) 0 c)
    (h : wpList Try.prog ops Q rest (a.put o.dst (.slice (some ⟨g, off, none⟩) 0 cap)) w) : wpList Try.prog ops Q (o :: rest) a w := by
  obtain ⟨i, hi, _, hi1, _⟩ := info_parts infoF
  refine wpList_plain hgd fun K hK => ?_
  have hr := run_append_room_cells (P := Try.prog) w 22 o.type 30 i Try.underlying22 hi g off 0 cap ad 0 c [] (by simp) (fun j u hj => by simp at hj) (fun u hu => by cases hu) (by omega) (fun j hj => by simp at hj) (fun j hj => by simp at hj)
  rw [setCells_sets] at hr
  unfold Oper.wp execOp
  simp only [ho, resolve, invoke, builtin, Sem.run_bind, Sem.run_pure, Result.andThen_ok, List.map_toArray, List.map_cons, List.map_nil, hs, hx, hr]
  exact hK _ _ h

set_option maxHeartbeats 1000000 in
set_option maxRecDepth 100000 in
theorem fclone_none (a : Option Addr) (c : Nat) (w : World) :
    Calls Try.prog 33 #[.slice a 0 c] w fun e w' => (∃ a', e = .returned (.slice a' 0 0)) ∧ RowKit.Below w.heap.size w w' := by
  have heq := fun w' => Lib.run_eql_slice_nil (P := Try.prog) w' 22 30 a 0 c 0 0 Try.underlying22
  cases a with
  | none =>
    go_enter Try.func33, Try.ntmps33
    go_wp2
    go_ret
    exact ⟨⟨none, rfl⟩, RowKit.Below.refl _ _⟩
  | some ad =>
    go_enter Try.func33, Try.ntmps33
    go_wp2_with (at_builtin; refine Mark.out ?_)
    refine Mark.mk ?_
    refine wpList_app_zero rfl (.tmp 5) (.tmp 6) rfl w.heap.size 0 0 rfl ad c rfl ?_
    go_wp2
    go_ret
    exact ⟨⟨_, rfl⟩, (RowKit.Below.refl _ w).alloc (Nat.le_refl _) _⟩

set_option maxHeartbeats 2000000 in
set_option maxRecDepth 100000 in
theorem ofMap_none (a : Option Addr) (c : Nat) (w : World) : Calls Try.prog 12 #[.slice a 0 c] w (OfMapP [] w) := by
  have hb0 : RowKit.Below w.heap.size w (w.alloc (.cells #[.int .i64 0, .bool false, .int .i64 0, .string ⟨#[]⟩, .slice none 0 0, .slice none 0 0] 26)) := (RowKit.Below.refl _ w).alloc (Nat.le_refl _) _
  have hZ : Box (w.alloc (.cells #[.int .i64 0, .bool false, .int .i64 0, .string ⟨#[]⟩, .slice none 0 0, .slice none 0 0] 26)) w.heap.size 26 #[.int .i64 0, .bool false, .int .i64 0, .string ⟨#[]⟩, .slice none 0 0, .slice none 0 0] := Box.new w _ _
  have HB := Lib.hid (And.intro hb0 hZ)
  clear hb0 hZ
  go_enter Try.func12, Try.ntmps12
  go_wp2_with fail
  refine (fclone_none a c _).mono ?_
  rintro e w1 ⟨⟨a', rfl⟩, hb1⟩
  have hb1w := HB.out.1.trans (hb1.mono (by simp))
  have hZ1 : Box w1 w.heap.size 26 #[.int .i64 0, .bool false, .int .i64 0, .string ⟨#[]⟩, .slice none 0 0, .slice none 0 0] := (hb1.block _ (by simp)).trans HB.out.2
  have HX := Lib.hid (And.intro hb1w hZ1)
  have hcl := cloneFields_any (depF []) (clone_all _) [] (fun x hx => by cases hx) (fun x hx => by cases hx) (by simp) (.slice a' 0 0) w1 ⟨a', 0, rfl, Nat.le_refl _, by unfold maxLen; omega, .inl rfl⟩
  clear hb1 hb1w hZ1
  go_wp2_with fail
  refine (stable_none a' 0 w1).mono ?_
  rintro e w2 ⟨rfl, rfl⟩
  go_wp2_with fail
  refine wp_loop_rounds 1 ?_
  rw [rounds_succ]
  go_wp2_with fail
  refine hcl.mono ?_
  rintro e w5 ⟨lv', rfl, hF5, hb5⟩
  obtain ⟨qx, qc, rfl, _, _, _⟩ := id hF5
  have hz1 := HX.out.2.lt
  have hZ5 : Box w5 w.heap.size 26 #[.int .i64 0, .bool false, .int .i64 0, .string ⟨#[]⟩, .slice none 0 0, .slice none 0 0] := (hb5.block _ hz1).trans HX.out.2
  have hb5w := HX.out.1.trans (hb5.mono (by omega))
  have hF6 := Box.sets [.int .i64 5, .bool false, .int .i64 0, .string ⟨#[]⟩, .slice none 0 0, .slice qx 0 qc] 0 hZ5
  obtain ⟨⟨k0, k1, k2, k3, k4, k5⟩, _⟩ := Box.six (c0 := .int .i64 5) (c1 := .bool false) (c2 := .int .i64 0) (c3 := .string ⟨#[]⟩) (c4 := .slice none 0 0) (c5 := .slice qx 0 qc) hF6
  simp only [sets, Nat.zero_add, Nat.reduceAdd] at k0 k1 k2 k3 k4 k5
  have hb6 := Go.Proofs.Ytcocljgafhpdaaa.Below.sets [.int .i64 5, .bool false, .int .i64 0, .string ⟨#[]⟩, .slice none 0 0, .slice qx 0 qc] 0 hb5w (g := w.heap.size) (Nat.le_refl _)
  have hat6 : (V.ofMap []).At (sets w5 w.heap.size 0 [.int .i64 5, .bool false, .int .i64 0, .string ⟨#[]⟩, .slice none 0 0, .slice qx 0 qc]) (fun q => w.heap.size ≤ q) (.slice none 0 0) (.slice qx 0 qc) :=
    V.at_iff.2 ⟨⟨none, 0, rfl, Nat.le_refl _, by unfold maxLen; omega, .inl rfl⟩, FAt.move (fun b hb _ => ⟨by omega, sets_far _ _ _ _ (by omega)⟩) (by rw [sets_size]; exact Nat.le_refl _) hF5⟩
  obtain ⟨⟨z0, z1, z2, z3, z4, z5⟩, s0, s1, s2, s3, s4, s5⟩ := hZ5.six
  have HE := Lib.hid (And.intro hb6 hat6)
  clear hF6 hF5 hb5 hZ5 hb5w hb6 hat6 hcl hz1
  go_wp2
  refine bodyPost_ret (v := .agg #[.int .i64 5, .bool false, .int .i64 0, .string ⟨#[]⟩, .slice none 0 0, .slice qx 0 qc]) (by simp [results, Try.results12, go_sem, k0, k1, k2, k3, k4, k5]) rfl ⟨_, rfl, HE.out.2, HE.out.1⟩

/-- OfMap of twenty fields at most, however they lie -/
theorem ofMap_any (fs : List Fd) (fv : Value) (w : World) (h : FAt w All fs fv) (hlen : fs.length ≤ 20) (hsm : ∀ p ∈ fs, p.2.sm) :
    ∃ d : Array FC, fs = (d.map FC.fd).toList ∧ Calls Try.prog 12 #[fv] w (OfMapP ((keptF d).map FC.fd) w) := by
  obtain ⟨a, c, d, rfl, hfs, hrep, hd⟩ := fields_lie h
  have hl : d.size = fs.length := by rw [hfs]; simp
  refine ⟨d, hfs, ?_⟩
  by_cases h0 : d.size = 0
  · obtain rfl : d = #[] := Array.eq_empty_of_size_eq_zero h0
    exact ofMap_none a c w
  · rcases hd with hd | ⟨b, off, rfl, hb, hin⟩
    · exact absurd hd h0
    · exact ofMap_some b off c d (by omega) (by omega) w hb hin hrep (fun x hx => hsm (FC.fd x) (by
        rw [hfs]
        exact Array.mem_toList_iff.2 (Array.mem_map.2 ⟨x, hx, rfl⟩)))

end Go.Proofs.Ytcocljgafhpdaaa
end

section
namespace Go.Proofs.Ytcocljgafhpdaaa
open Go.Sort

theorem lastsTo_at (D : Array FC) : ∀ i, ∀ x ∈ lastsTo D i, ∃ (k : Nat) (h : k < D.size), k < i ∧ x = D[k] ∧ (k + 1 = D.size ∨ ∃ h2 : k + 1 < D.size, (D[k + 1]).nm ≠ (D[k]).nm)
  | 0, x, h => by cases h
  | i + 1, x, h => by
    rw [lastsTo] at h
    split at h
    · rename_i hi
      split at h
      · rename_i hk
        rcases List.mem_append.1 h with h | h
        · obtain ⟨k, h1, h2, h3⟩ := lastsTo_at D i x h
          exact ⟨k, h1, by omega, h3⟩
        · exact ⟨i, hi, by omega, List.mem_singleton.1 h, hk⟩
      · obtain ⟨k, h1, h2, h3⟩ := lastsTo_at D i x h
        exact ⟨k, h1, by omega, h3⟩
    · obtain ⟨k, h1, h2, h3⟩ := lastsTo_at D i x h
      exact ⟨k, h1, by omega, h3⟩

theorem sortF_le (d : Array FC) {i j : Nat} (hi : i < (sortF d).size) (hj : j < (sortF d).size) (h : i ≤ j) : ¬ (sortF d)[j].nm.data.toList < (sortF d)[i].nm.data.toList := by
  by_cases e : i = j
  · subst e; exact lt_irr _
  · have hs := sortF_size d
    have h1 := (insertionSort_holds (lt := ltOf FC.cf) cf_swo d 0 d.size (Nat.zero_le _) (Nat.le_refl _)).2 i j (Nat.zero_le _) (by omega) (by omega)
    have h2 : ltOf FC.cf (sortF d)[j]! (sortF d)[i]! = false := h1
    rw [getElem!_pos _ j hj, getElem!_pos _ i hi] at h2
    intro h3
    unfold ltOf FC.cf at h2
    rw [cmpL_lt h3] at h2
    cases h2

def riseFC (x y : FC) : Prop := x.nm.data.toList < y.nm.data.toList

theorem lasts_rise (d : Array FC) : ∀ i, i ≤ (sortF d).size → (lastsTo (sortF d) i).Pairwise riseFC
  | 0, _ => List.Pairwise.nil
  | i + 1, hi => by
    have ih := lasts_rise d i (by omega)
    rw [lastsTo, dif_pos (by omega)]
    split
    · refine List.pairwise_append.2 ⟨ih, List.pairwise_singleton _ _, fun x hx y hy => ?_⟩
      obtain rfl : y = (sortF d)[i] := List.mem_singleton.1 hy
      obtain ⟨k, hk, hki, rfl, hlast | ⟨h2, hne⟩⟩ := lastsTo_at _ _ x hx
      · omega
      · have h3 := sortF_le d (i := k) (j := k + 1) hk h2 (by omega)
        have h4 := sortF_le d (i := k + 1) (j := i) h2 (by omega) (by omega)
        have h5 : (sortF d)[k].nm.data.toList < (sortF d)[k + 1].nm.data.toList := by
          rcases lt_tri (sortF d)[k].nm.data.toList (sortF d)[k + 1].nm.data.toList with g | g | g
          · exact g
          · exact absurd (ByteArray.ext (Array.toList_inj.1 g)).symm hne
          · exact absurd g h3
        show (sortF d)[k].nm.data.toList < (sortF d)[i].nm.data.toList
        rcases lt_tri (sortF d)[k + 1].nm.data.toList (sortF d)[i].nm.data.toList with g | g | g
        · exact List.lt_trans h5 g
        · rw [← g]; exact h5
        · exact absurd g h4
    · exact ih

theorem kept_rise (d : Array FC) : (keptF d).Pairwise riseFC := lasts_rise d d.size (by rw [sortF_size]; exact Nat.le_refl _)

theorem kept_mem {d : Array FC} {x : FC} (h : x ∈ keptF d) : x ∈ d := sortF_mem (lastsTo_mem _ _ x h)

theorem kept_length (d : Array FC) : (keptF d).length ≤ d.size := lastsTo_length _ _

/-- so a map of what is kept is right, where the values are -/
theorem kept_right (d : Array FC) (r : Int) (h : ∀ x ∈ d, x.v.right r = true) : rightF none ((keptF d).map FC.fd) r = true := by
  refine rightF_iff.2 fun i hi => ?_
  have hi' : i < (keptF d).length := by simpa using hi
  simp only [List.getElem_map]
  refine ⟨h _ (kept_mem (List.getElem_mem hi')), ?_⟩
  by_cases h0 : 0 < i
  · rw [dif_pos h0]
    exact decide_eq_true (List.pairwise_iff_getElem.1 (kept_rise d) (i - 1) i (by omega) hi' (by omega))
  · rw [dif_neg h0]
    rfl

end Go.Proofs.Ytcocljgafhpdaaa
end

section
namespace Go.Proofs.Ytcocljgafhpdaaa
open Go.Sort

theorem swap_filter {α : Type} (p : α → Bool) : ∀ (l : List α) (j : Nat) (x y : α), l[j]? = some x → l[j + 1]? = some y → (p x = true → p y = true → False) → ((l.set (j + 1) x).set j y).filter p = l.filter p
  | [], _, _, _, h, _, _ => by simp at h
  | [_], 0, _, _, _, h, _ => by simp at h
  | a :: b :: l, 0, x, y, h1, h2, h => by
    obtain rfl : a = x := by simpa using h1
    obtain rfl : b = y := by simpa using h2
    simp only [List.set_cons_succ, List.set_cons_zero, List.filter_cons]
    cases h3 : p a <;> cases h4 : p b
    · rfl
    · rfl
    · rfl
    · exact absurd h4 (fun h4 => h h3 h4)
  | a :: l, j + 1, x, y, h1, h2, h => by
    have ih := swap_filter p l j x y (by simpa using h1) (by simpa using h2) h
    simp only [List.set_cons_succ, List.filter_cons, ih]

section
variable {α : Type} [Inhabited α] (lt : α → α → Bool) (p : α → Bool) (hp : ∀ x y, p x = true → p y = true → lt x y = false)
include hp

theorem swp_filter (d : Array α) (j : Nat) (hj : j + 1 < d.size) (h : lt d[j + 1]! d[j]! = true) : (swp d (j + 1) j).toList.filter p = d.toList.filter p := by
  unfold swp
  rw [getElem!_pos d (j + 1) hj, getElem!_pos d j (by omega)] at *
  rw [Array.toList_setIfInBounds, Array.toList_setIfInBounds]
  refine swap_filter p _ j _ _ (by simp) (by simp [hj]) fun h1 h2 => ?_
  rw [hp _ _ h2 h1] at h
  cases h

theorem inner_filter (a : Nat) : ∀ (j : Nat) (d : Array α), j < d.size → (insInner lt a j d).toList.filter p = d.toList.filter p
  | 0, _, _ => rfl
  | j + 1, d, hj => by
    rw [insInner]
    split
    · rename_i h
      have h' : lt d[j + 1]! d[j]! = true := by
        have := (Bool.and_eq_true _ _).mp h
        exact this.2
      rw [inner_filter a j (swp d (j + 1) j) (by simp [swp]; omega)]
      exact swp_filter lt p hp d j hj h'
    · rfl

omit hp in
theorem inner_size (a : Nat) : ∀ (j : Nat) (d : Array α), (insInner lt a j d).size = d.size
  | 0, _ => rfl
  | j + 1, d => by
    rw [insInner]
    split
    · rw [inner_size a j]; simp [swp]
    · rfl

theorem outer_filter (a b : Nat) : ∀ (n i : Nat) (d : Array α), b - i = n → b ≤ d.size → (insOuter lt a b i d).toList.filter p = d.toList.filter p
  | n, i, d, hn, hb => by
    rw [insOuter]
    split
    · rename_i h
      match n, hn with
      | 0, hn => omega
      | n + 1, hn =>
        rw [outer_filter a b n (i + 1) _ (by omega) (by rw [inner_size lt]; exact hb)]
        exact inner_filter lt p hp a i d (by omega)
    · rfl
end

def byName (n : ByteArray) (x : FC) : Bool := decide (x.nm = n)

/-- the sort is stable: of one name the fields stay in their order -/
theorem sortF_filter (d : Array FC) (n : ByteArray) : (sortF d).toList.filter (byName n) = d.toList.filter (byName n) := by
  refine outer_filter (ltOf FC.cf) (byName n) (fun x y hx hy => ?_) 0 d.size _ 1 d rfl (Nat.le_refl _)
  have hx' : x.nm = n := of_decide_eq_true hx
  have hy' : y.nm = n := of_decide_eq_true hy
  have h := cf_swo.irrefl x
  unfold ltOf FC.cf at h ⊢
  rw [hx'] at h ⊢
  rw [hy']
  exact h

theorem lastsTo_in (D : Array FC) (k : Nat) (hk : k < D.size) (hl : k + 1 = D.size ∨ ∃ h2 : k + 1 < D.size, (D[k + 1]).nm ≠ (D[k]).nm) : ∀ i, k < i → D[k] ∈ lastsTo D i
  | 0, h => absurd h (Nat.not_lt_zero _)
  | i + 1, h => by
    rw [lastsTo]
    by_cases e : k = i
    · subst e
      rw [dif_pos hk, if_pos hl]
      exact List.mem_append.2 (.inr (List.mem_singleton.2 rfl))
    · have ih := lastsTo_in D k hk hl i (by omega)
      split
      · split
        · exact List.mem_append.2 (.inl ih)
        · exact ih
      · exact ih

theorem last_from (D : Array FC) : ∀ n i (hi : i < D.size), D.size - i = n → ∃ y ∈ lastsTo D D.size, y.nm = D[i].nm
  | 0, i, hi, hn => by omega
  | n + 1, i, hi, hn => by
    by_cases h1 : i + 1 = D.size
    · exact ⟨_, lastsTo_in D i hi (.inl h1) _ hi, rfl⟩
    · have h2 : i + 1 < D.size := by omega
      by_cases h3 : (D[i + 1]).nm = (D[i]).nm
      · obtain ⟨y, hy, e⟩ := last_from D n (i + 1) h2 (by omega)
        exact ⟨y, hy, e.trans h3⟩
      · exact ⟨_, lastsTo_in D i hi (.inr ⟨h2, h3⟩) _ hi, rfl⟩

/-- every name that came is kept -/
theorem kept_has {d : Array FC} {x : FC} (h : x ∈ d) : ∃ y ∈ keptF d, y.nm = x.nm := by
  have h1 : x ∈ sortF d := Array.mem_toList_iff.1 ((sortF_perm d).mem_iff.2 (Array.mem_toList_iff.2 h))
  obtain ⟨i, hi, rfl⟩ := Array.getElem_of_mem h1
  obtain ⟨y, hy, e⟩ := last_from (sortF d) _ i hi rfl
  rw [sortF_size] at hy
  exact ⟨y, hy, e⟩

/-- and of each name the last one that came -/
theorem kept_last {d : Array FC} {x : FC} (h : x ∈ keptF d) : (d.toList.filter (byName x.nm)).getLast? = some x := by
  obtain ⟨k, hk, _, rfl, hl⟩ := lastsTo_at _ _ x h
  rw [← sortF_filter, ← List.take_append_drop (k + 1) (sortF d).toList, List.filter_append]
  have hk' : k < (sortF d).toList.length := by simpa using hk
  have e1 : (sortF d).toList.take (k + 1) = (sortF d).toList.take k ++ [(sortF d)[k]] := by
    rw [List.take_add_one, List.getElem?_eq_getElem hk', Array.getElem_toList]; rfl
  have e2 : ((sortF d).toList.drop (k + 1)).filter (byName (sortF d)[k].nm) = [] := by
    refine List.filter_eq_nil_iff.2 fun y hy hn => ?_
    obtain ⟨i, hi, rfl⟩ := List.getElem_of_mem hy
    have hi' : i < (sortF d).size - (k + 1) := by simpa using hi
    have hn' : ((sortF d).toList.drop (k + 1))[i].nm = (sortF d)[k].nm := of_decide_eq_true hn
    rw [List.getElem_drop, Array.getElem_toList] at hn'
    rcases hl with hl | ⟨h2, hne⟩
    · omega
    · have h3 := sortF_le d (i := k) (j := k + 1) hk h2 (by omega)
      have h4 := sortF_le d (i := k + 1) (j := k + 1 + i) h2 (by omega) (by omega)
      rw [hn'] at h4
      rcases lt_tri (sortF d)[k].nm.data.toList (sortF d)[k + 1].nm.data.toList with g | g | g
      · exact h4 g
      · exact hne (ByteArray.ext (Array.toList_inj.1 g)).symm
      · exact h3 g
  rw [e2, List.append_nil, e1, List.filter_append]
  have e3 : [(sortF d)[k]].filter (byName (sortF d)[k].nm) = [(sortF d)[k]] := by simp [byName]
  rw [e3, List.getLast?_concat]

end Go.Proofs.Ytcocljgafhpdaaa
end

section
namespace Go.Proofs.Ytcocljgafhpdaaa
open Go.RowKit Go.ChangeMaps Go.MapKept Go.WideMaps
open Go.Maps (Keyed)

/-- an element reads as itself -/
def RV (v : Value) : Option (DataW Value × List MemPlace) := some (.held v, [])

abbrev FL := List (List UInt8 × Value)
def dm (fs : FL) : DataW Value := .map (fs.map fun p => (.string p.1, .held p.2))
def insS (x : List UInt8 × Value) : FL → FL
  | [] => [x]
  | y :: r => if bytesBefore x.1 y.1 then x :: y :: r else y :: insS x r
def delS (k : List UInt8) (fs : FL) : FL := fs.filter fun p => !(p.1 == k)
def putS (k : List UInt8) (v : Value) (fs : FL) : FL := insS (k, v) (delS k fs)
def getS (k : List UInt8) (fs : FL) : Option Value := (fs.find? fun p => p.1 == k).map (·.2)

theorem dm_ins (x : List UInt8 × Value) : ∀ fs : FL, DataW.insert (Lit.string x.1, DataW.held x.2) (fs.map fun p => (Lit.string p.1, DataW.held p.2)) = (insS x fs).map fun p => (Lit.string p.1, DataW.held p.2)
  | [] => rfl
  | y :: r => by
    rw [List.map_cons, DataW.insert, insS]
    have e : (Lit.string x.1).before (Lit.string y.1) = bytesBefore x.1 y.1 := rfl
    by_cases h : bytesBefore x.1 y.1 = true
    · rw [if_pos h, if_pos (e.trans h)]; simp
    · rw [if_neg h, if_neg (fun g => h (e.symm.trans g)), dm_ins x r]; simp
theorem dm_filter (k : List UInt8) (fs : FL) : (fs.map fun p => (Lit.string p.1, DataW.held (H := Value) p.2)).filter (fun p => !p.1.sameKey (.string k)) = (delS k fs).map fun p => (Lit.string p.1, DataW.held p.2) := by
  unfold delS
  rw [List.filter_map]
  rfl
theorem dm_put (k : List UInt8) (v : Value) (fs : FL) : (dm fs).put (.string k) (.held v) = dm (putS k v fs) := by
  unfold dm DataW.put
  simp only
  rw [dm_filter, dm_ins (k, v)]
  rfl
theorem dm_del (k : List UInt8) (fs : FL) : (dm fs).del (.string k) = dm (delS k fs) := by
  unfold dm DataW.del
  simp only
  rw [dm_filter]
theorem dm_at (k : List UInt8) (z : DataW Value) : ∀ fs : FL, (dm fs).atKey (.string k) z = match getS k fs with | some v => .held v | none => z
  | [] => rfl
  | y :: r => by
    have ih := dm_at k z r
    unfold dm DataW.atKey getS at ih ⊢
    simp only [List.map_cons, List.find?_cons, Lit.sameKey] at ih ⊢
    by_cases h : y.1 == k
    · rw [h]; rfl
    · have h : (y.1 == k) = false := by simpa using h
      rw [h]
      exact ih
theorem dm_keys (fs : FL) : strKeys (dm fs) = fs.map (·.1) := by
  unfold dm strKeys
  simp only [List.map_map]
  rfl

/-- block b is a map of the names and values fs -/
def MapAt (k : TypeId) (w : World) (b n : Nat) (fs : FL) : Prop := w.ownsMap Try.prog k RV b n (dm fs)

theorem MapAt.made (k : TypeId) (w : World) : MapAt k (w.alloc (.map #[] 0)) w.heap.size 0 [] := World.ownsMap_made w Try.prog k RV

theorem MapAt.lt {k : TypeId} {w : World} {b n : Nat} {fs : FL} (h : MapAt k w b n fs) : b < w.heap.size := World.ownsMap.lt h

theorem MapAt.kept {k : TypeId} {w w' : World} {b n : Nat} {fs : FL} (h : MapAt k w b n fs) (hk : w'.heap[b]? = w.heap[b]?) : MapAt k w' b n fs := by
  obtain ⟨es, clock, hb, F, hs, hD⟩ := h
  exact ⟨es, clock, hk.trans hb, F, hs, hD⟩

theorem MapAt.look {k t e : TypeId} {w : World} {b n : Nat} {fs : FL} (h : MapAt k w b n fs) (hk : Try.prog.underlying k = some .string) (ht : Try.prog.underlying t = some (.map k e)) {z : Value} (hz : (zeroValue e).run Try.prog w = .ok z w) (s : ByteArray) (hs : s.size ≤ maxLen) (c : Bool) :
    (Instr.lookup t (.map (some b)) (.string s) c).run Try.prog w = .ok (if c then .tuple #[(getS s.data.toList fs).getD z, .bool (getS s.data.toList fs).isSome] else (getS s.data.toList fs).getD z) w := by
  obtain ⟨es, clock, hb, F, _, hD⟩ := h
  have key := keyOf_string_mk (P := Try.prog) hk hs
  rcases Maps.fit_look c (Maps.string_keyed hk) ht hz hb F key with ⟨hrun, _, hat⟩ | ⟨e0, y, _, _, hrun, hRv, hat, _⟩
  · have h1 := hat (.nil)
    rw [← hD, dm_at] at h1
    cases hg : getS s.data.toList fs with
    | none => rw [hrun]; rfl
    | some v => rw [hg] at h1; cases h1
  · have h1 := hat (.nil)
    rw [← hD, dm_at] at h1
    obtain rfl : y = (.held e0.val, []) := (Option.some.inj (show some ((DataW.held e0.val : DataW Value), ([] : List MemPlace)) = some y from hRv)).symm
    cases hg : getS s.data.toList fs with
    | none => rw [hg] at h1; cases h1
    | some v =>
      rw [hg] at h1
      have h2 : v = e0.val := DataW.held.inj h1
      rw [hrun, h2]; rfl

theorem MapAt.store {k t e : TypeId} {w : World} {b n : Nat} {fs : FL} (h : MapAt k w b n fs) (hk : Try.prog.underlying k = some .string) (ht : Try.prog.underlying t = some (.map k e)) (hn : n < 1000000) (s : ByteArray) (hs : s.size ≤ maxLen) (v : Value) :
    ∃ w', (Instr.mapUpdate t (.map (some b)) (.string s) v).run Try.prog w = .ok () w' ∧ MapAt k w' b (n + 1) (putS s.data.toList v fs) ∧ w.grownBy w' (some b) := by
  obtain ⟨w', h1, h2, h3⟩ := World.ownsMap.update h (Maps.string_keyed hk) ht (by unfold maxLen; omega) (keyOf_string_mk (P := Try.prog) hk hs) (show RV v = some (.held v, []) from rfl)
  rw [dm_put] at h2
  exact ⟨w', h1, h2, h3⟩

theorem MapAt.delete {k t e : TypeId} {w : World} {b n : Nat} {fs : FL} (h : MapAt k w b n fs) (hk : Try.prog.underlying k = some .string) (ht : Try.prog.underlying t = some (.map k e)) (s : ByteArray) (hs : s.size ≤ maxLen) (ty : TypeId) :
    ∃ w', (Builtin.delete_ #[t, k] ty #[.map (some b), .string s]).run Try.prog w = .ok (.tuple #[]) w' ∧ MapAt k w' b n (delS s.data.toList fs) ∧ w.grownBy w' (some b) := by
  obtain ⟨es, clock, hb, F, hsz, hD⟩ := h
  obtain ⟨es', hrun, F', hle, hdel, _⟩ := Maps.fit_drop (ty := ty) (Maps.string_keyed hk) ht hb F (keyOf_string_mk (P := Try.prog) hk hs)
  refine ⟨_, hrun, ⟨es', clock, heap_setBlock_same hb _, F', Nat.le_trans hle hsz, ?_⟩, ⟨rfl, rfl, rfl, by simp [setBlock], fun i _ hi => heap_setBlock_other hb _ (fun e => hi (by rw [e]))⟩⟩
  rw [← dm_del, hD]
  unfold DataW.del
  simp only
  rw [hdel]
  rfl

end Go.Proofs.Ytcocljgafhpdaaa
end

section
namespace Go.Proofs.Ytcocljgafhpdaaa
open Go.Sort

theorem ins_find (x : List UInt8 × Value) (k : List UInt8) : ∀ fs : FL, (∀ p ∈ fs, p.1 ≠ x.1) → (insS x fs).find? (fun p => p.1 == k) = if x.1 = k then some x else fs.find? (fun p => p.1 == k)
  | [], _ => by
    rw [insS]
    by_cases h : x.1 = k <;> simp [h]
  | y :: r, hn => by
    have hy := hn y (by simp)
    rw [insS]
    by_cases hb : bytesBefore x.1 y.1 = true
    · rw [if_pos hb, List.find?_cons]
      by_cases h : x.1 = k
      · rw [show (x.1 == k) = true from beq_iff_eq.2 h, if_pos h]
      · rw [show (x.1 == k) = false from beq_eq_false_iff_ne.2 h, if_neg h]
    · rw [if_neg hb, List.find?_cons, ins_find x k r fun p hp => hn p (by simp [hp])]
      by_cases h : x.1 = k
      · have : (y.1 == k) = false := by rw [beq_eq_false_iff_ne, ← h]; exact hy
        rw [this, if_pos h, if_pos h]
      · rw [if_neg h, if_neg h, List.find?_cons]

theorem del_find (k j : List UInt8) (h : j ≠ k) (fs : FL) : (delS k fs).find? (fun p => p.1 == j) = fs.find? (fun p => p.1 == j) := by
  unfold delS
  rw [List.find?_filter]
  congr 1
  funext p
  by_cases e : p.1 = j
  · rw [e]
    simp [h]
  · simp [e]

theorem getS_put (k j : List UInt8) (v : Value) (fs : FL) : getS j (putS k v fs) = if k = j then some v else getS j fs := by
  unfold getS putS
  rw [ins_find (k, v) j (delS k fs) fun p hp e => by
    have := (List.mem_filter.1 hp).2
    simp [e] at this]
  by_cases h : k = j
  · rw [if_pos h, if_pos h]; rfl
  · rw [if_neg h, if_neg h, del_find k j fun e => h e.symm]

/-- a field's value, as an element of the map -/
def vagg (x : FC) : Value := .agg #[.int .i64 x.v.kind, .bool x.v.yes, .int .i64 x.v.num, .string x.v.text, .slice x.a x.v.list.length x.c, .slice x.b x.v.fields.length x.d]

def lastMap (l : List FC) : FL := l.foldl (fun m x => putS x.nm.data.toList (vagg x) m) []

theorem lastMap_snoc (l : List FC) (x : FC) : lastMap (l ++ [x]) = putS x.nm.data.toList (vagg x) (lastMap l) := by
  unfold lastMap
  rw [List.foldl_append]
  rfl

theorem foldl_get (n : ByteArray) : ∀ (l : List FC) (m : FL), getS n.data.toList (l.foldl (fun m x => putS x.nm.data.toList (vagg x) m) m) = match (l.filter (byName n)).getLast? with | some x => some (vagg x) | none => getS n.data.toList m
  | [], _ => rfl
  | x :: l, m => by
    rw [List.foldl_cons, foldl_get n l, List.filter_cons]
    by_cases h : x.nm = n
    · have h2 : byName n x = true := by unfold byName; exact decide_eq_true h
      rw [if_pos h2, List.getLast?_cons, getS_put, if_pos (by rw [h])]
      cases (l.filter (byName n)).getLast? <;> rfl
    · have h2 : byName n x = false := by unfold byName; exact decide_eq_false h
      rw [if_neg (by rw [h2]; simp), getS_put, if_neg fun e => h (ByteArray.ext (Array.toList_inj.1 e))]

theorem lastMap_get (l : List FC) (n : ByteArray) : getS n.data.toList (lastMap l) = ((l.filter (byName n)).getLast?).map vagg := by
  unfold lastMap
  rw [foldl_get]
  cases (l.filter (byName n)).getLast? <;> rfl

/-- what is kept is what the map holds -/
theorem kept_get {d : Array FC} {x : FC} (h : x ∈ keptF d) : getS x.nm.data.toList (lastMap d.toList) = some (vagg x) := by
  rw [lastMap_get, kept_last h]
  rfl
theorem kept_not {d : Array FC} {n : ByteArray} (h : ∀ x ∈ keptF d, x.nm ≠ n) : getS n.data.toList (lastMap d.toList) = none := by
  rw [lastMap_get]
  have : d.toList.filter (byName n) = [] := List.filter_eq_nil_iff.2 fun x hx e => by
    obtain ⟨y, hy, e2⟩ := kept_has (Array.mem_toList_iff.1 hx)
    exact h y hy (e2.trans (of_decide_eq_true e))
  rw [this]
  rfl

theorem ins_perm (x : List UInt8 × Value) : ∀ fs : FL, (insS x fs).Perm (x :: fs)
  | [] => List.Perm.refl _
  | y :: r => by
    rw [insS]
    split
    · exact List.Perm.refl _
    · exact ((ins_perm x r).cons y).trans (List.Perm.swap x y r)

theorem put_nodup {k : List UInt8} {v : Value} {fs : FL} (h : (fs.map (·.1)).Nodup) : ((putS k v fs).map (·.1)).Nodup := by
  unfold putS
  refine ((ins_perm (k, v) (delS k fs)).map (·.1)).nodup_iff.2 ?_
  rw [List.map_cons, List.nodup_cons]
  refine ⟨fun hm => ?_, (List.Sublist.map _ List.filter_sublist).nodup h⟩
  obtain ⟨p, hp, e⟩ := List.mem_map.1 hm
  have := (List.mem_filter.1 hp).2
  simp [e] at this

theorem foldl_nodup : ∀ (l : List FC) (m : FL), (m.map (·.1)).Nodup → ((l.foldl (fun m x => putS x.nm.data.toList (vagg x) m) m).map (·.1)).Nodup
  | [], _, h => h
  | _ :: l, _, h => foldl_nodup l _ (put_nodup h)

theorem getS_mem {n : List UInt8} {fs : FL} (h : n ∈ fs.map (·.1)) : getS n fs ≠ none := by
  obtain ⟨p, hp, e⟩ := List.mem_map.1 h
  unfold getS
  intro h2
  rw [Option.map_eq_none_iff, List.find?_eq_none] at h2
  exact h2 p hp (by simp [e])
theorem mem_getS {n : List UInt8} {fs : FL} {v : Value} (h : getS n fs = some v) : n ∈ fs.map (·.1) := by
  unfold getS at h
  obtain ⟨p, hp, _⟩ := Option.map_eq_some_iff.1 h
  exact List.mem_map.2 ⟨p, List.mem_of_find?_eq_some hp, by have := List.find?_some hp; simpa using this⟩

theorem nodup_le {α : Type} [DecidableEq α] : ∀ (l1 l2 : List α), l1.Nodup → (∀ x ∈ l1, x ∈ l2) → l1.length ≤ l2.length
  | [], _, _, _ => Nat.zero_le _
  | x :: r, l2, h, hs => by
    obtain ⟨h1, h2⟩ := List.nodup_cons.1 h
    have hx := hs x (by simp)
    have := nodup_le r (l2.erase x) h2 fun y hy => (List.mem_erase_of_ne fun e => h1 (by rw [← e]; exact hy)).2 (hs y (by simp [hy]))
    rw [List.length_erase_of_mem hx] at this
    have hp := List.length_pos_of_mem hx
    simp only [List.length_cons]
    omega

/-- the map holds as many as are kept -/
theorem kept_count (d : Array FC) : (lastMap d.toList).length = (keptF d).length := by
  have h1 : ((lastMap d.toList).map (·.1)).Nodup := foldl_nodup d.toList [] List.nodup_nil
  have h2 : ((keptF d).map (fun x => x.nm.data.toList)).Nodup := by
    refine List.pairwise_map.2 ((kept_rise d).imp fun {a b} h e => ?_)
    unfold riseFC at h
    rw [e] at h
    exact List.lt_irrefl _ h
  have a := nodup_le _ ((keptF d).map (fun x => x.nm.data.toList)) h1 fun n hn => by
    cases hx : (keptF d).find? (fun x => x.nm.data.toList == n) with
    | some x => exact List.mem_map.2 ⟨x, List.mem_of_find?_eq_some hx, by have := List.find?_some hx; simpa using this⟩
    | none =>
      rw [List.find?_eq_none] at hx
      have h := kept_not (d := d) (n := ⟨n.toArray⟩) fun x hm e => hx x hm (by rw [e]; simp)
      exact absurd h (getS_mem hn)
  have b := nodup_le _ ((lastMap d.toList).map (·.1)) h2 fun n hn => by
    obtain ⟨x, hx, rfl⟩ := List.mem_map.1 hn
    exact mem_getS (kept_get hx)
  rw [List.length_map, List.length_map] at a b
  omega

end Go.Proofs.Ytcocljgafhpdaaa
end

section
namespace Go.Proofs.Ytcocljgafhpdaaa
open Go.RowKit

set_option maxHeartbeats 1000000 in
theorem fieldsOf_any (k : Int) (y : Bool) (n : Int) (t : ByteArray) (ax : Option Addr) (lx cx : Nat) (ay : Option Addr) (ly cy : Nat) (w : World) :
    Calls Try.prog 38 #[.agg #[.int .i64 k, .bool y, .int .i64 n, .string t, .slice ax lx cx, .slice ay ly cy]] w fun e w' =>
      e = .returned (if k = 5 then .slice ay ly cy else .slice none 0 0) ∧ Below w.heap.size w w' := by
  by_cases hk : k = 5
  · subst hk
    go_enter Try.func38, Try.ntmps38
    go_wp2
    exact bodyPost_ret (v := .slice ay ly cy) (by simp [results, Try.results38, go_sem]) rfl ⟨rfl, ((Below.refl _ _).alloc (Nat.le_refl _) _)⟩
  · go_enter Try.func38, Try.ntmps38
    go_wp2
    exact bodyPost_ret (v := .slice none 0 0) (by simp [results, Try.results38, go_sem]) rfl ⟨rfl, ((Below.refl _ _).alloc (Nat.le_refl _) _)⟩

end Go.Proofs.Ytcocljgafhpdaaa
end

section
namespace Go.Proofs.Ytcocljgafhpdaaa
open Go.RowKit

/-- the value of the first field of a name -/
def getF : List Fd → ByteArray → Option V
  | [], _ => none
  | p :: l, n => if p.1 = n then some p.2 else getF l n

def GetP (l : List Fd) (n : ByteArray) (w : World) (e : Ending) (w' : World) : Prop :=
  Below w.heap.size w w' ∧ ((∃ x lv fv, getF l n = some x ∧ e = .returned (.tuple #[.agg (x.cells lv fv).toArray, .bool true]) ∧ x.At w' (fun q => w.heap.size ≤ q) lv fv) ∨
    (getF l n = none ∧ e = .returned (.tuple #[.agg #[.int .i64 0, .bool false, .int .i64 0, .string ⟨#[]⟩, .slice none 0 0, .slice none 0 0], .bool false])))

theorem fieldsOf_map (y : Bool) (n : Int) (t : ByteArray) (ax : Option Addr) (lx cx : Nat) (ay : Option Addr) (ly cy : Nat) (w : World) :
    Calls Try.prog 38 #[.agg #[.int .i64 5, .bool y, .int .i64 n, .string t, .slice ax lx cx, .slice ay ly cy]] w fun e w' =>
      e = .returned (.slice ay ly cy) ∧ Below w.heap.size w w' := by
  refine (fieldsOf_any 5 y n t ax lx cx ay ly cy w).mono ?_
  rintro e w' ⟨h, hb⟩
  exact ⟨by rw [h, if_pos rfl], hb⟩

set_option maxHeartbeats 4000000 in
set_option maxRecDepth 100000 in
theorem get_map (y : Bool) (m : Int) (t : ByteArray) (ax : Option Addr) (lx cx : Nat) (l : List Fd) (nm : ByteArray) (lv : Value) (w : World) (hsm : ∀ x ∈ l, x.2.sm) (hlen : l.length ≤ 100000) (hl : FAt w All l lv) :
    Calls Try.prog 14 #[.agg #[.int .i64 5, .bool y, .int .i64 m, .string t, .slice ax lx cx, lv], .string nm] w (GetP l nm w) := by
  obtain ⟨a, c, rfl, hc1, hc2, hcl⟩ := hl
  have hof := fun W => fieldsOf_map y m t ax lx cx a l.length c W
  have HSM := Lib.hid hsm
  have hW : ∀ w1, Below ((w.alloc (.cells #[.int .i64 5, .bool y, .int .i64 m, .string t, .slice ax lx cx, .slice a l.length c] 26)).alloc (.cells #[.int .i64 0, .bool false, .int .i64 0, .string ⟨#[]⟩, .slice none 0 0, .slice none 0 0] 26)).heap.size ((w.alloc (.cells #[.int .i64 5, .bool y, .int .i64 m, .string t, .slice ax lx cx, .slice a l.length c] 26)).alloc (.cells #[.int .i64 0, .bool false, .int .i64 0, .string ⟨#[]⟩, .slice none 0 0, .slice none 0 0] 26)) w1 →
      Below w.heap.size w w1 ∧ Box w1 (w.heap.size + 1) 26 #[.int .i64 0, .bool false, .int .i64 0, .string ⟨#[]⟩, .slice none 0 0, .slice none 0 0] := fun w1 h => by
    have h0 : Below w.heap.size w (w.alloc (.cells #[.int .i64 5, .bool y, .int .i64 m, .string t, .slice ax lx cx, .slice a l.length c] 26)) := (Below.refl _ w).alloc (Nat.le_refl _) _
    have e1 : (w.alloc (.cells #[.int .i64 5, .bool y, .int .i64 m, .string t, .slice ax lx cx, .slice a l.length c] 26)).heap.size = w.heap.size + 1 := by simp
    have hN := Box.new (w.alloc (.cells #[.int .i64 5, .bool y, .int .i64 m, .string t, .slice ax lx cx, .slice a l.length c] 26)) 26 #[.int .i64 0, .bool false, .int .i64 0, .string ⟨#[]⟩, .slice none 0 0, .slice none 0 0]
    rw [e1] at hN
    refine ⟨(h0.alloc (by omega) _).trans (h.mono (by simp; omega)), (h.block _ (by simp)).trans hN⟩
  have HW := Lib.hid hW
  clear hsm hW
  go_enter Try.func14, Try.ntmps14
  go_wp2_with fail
  refine (hof _).mono ?_
  rintro e w1 ⟨rfl, hb1⟩
  obtain ⟨hb2, hZ2⟩ := HW.out w1 hb1
  clear hof HW hb1
  go_wp2_with fail
  go_loopw [11] (fun i wr => ∃ (j : Nat), j ≤ l.length ∧ i = .int .i64 j ∧ Below w.heap.size w wr ∧ Box wr (w.heap.size + 1) 26 #[.int .i64 0, .bool false, .int .i64 0, .string ⟨#[]⟩, .slice none 0 0, .slice none 0 0] ∧
      Hid (getF l nm = getF (l.drop j) nm)) (fun i _ => l.length - (intOf i).toNat)
  case atStart => exact ⟨0, Nat.zero_le _, rfl, hb2, hZ2, Lib.hid rfl⟩
  case round =>
    clear hb2 hZ2
    obtain ⟨j, hj, rfl, hbr, hZ, HG⟩ := hrel
    have hzr := hbr.size
    have hlt0 := hZ.lt
    by_cases hjl : j < l.length
    · have hjl' : (j : Int) < (l.length : Int) := by omega
      obtain ⟨b0, off, ea, hbl, hC⟩ : ∃ b0 off, a = some ⟨b0, off, none⟩ ∧ b0 < wr.heap.size ∧ FCells wr All b0 off l := by
        rcases hcl with h | ⟨b0, off, ea, _, hb, hC⟩
        · rw [h] at hjl; simp at hjl
        · exact ⟨b0, off, ea, Nat.lt_of_lt_of_le hb hbr.size, FCells.keepAll hC hbr hb⟩
      subst ea
      obtain ⟨lx', fx, hin, hel⟩ := hC.get hjl
      have hxs := HSM.out _ (List.getElem_mem hjl)
      have hdrop := List.drop_eq_getElem_cons hjl
      obtain ⟨xp, hxe⟩ : ∃ y, y = l[j] := ⟨_, rfl⟩
      rw [← hxe] at hin hel hxs hdrop
      have hg := HG.out
      rw [hdrop] at hg
      clear hxe hC HG hdrop
      obtain ⟨fn, x⟩ := xp
      simp only at hin hel hxs
      rw [getF] at hg
      simp only at hg
      replace hel : x.Is wr lx' fx := hel
      obtain ⟨⟨px, pc, rfl⟩, ⟨py, pd, rfl⟩, _, _⟩ := hel.len
      obtain ⟨p0, p1, p2, p3, p4, p5, p6⟩ := hin.seven
      have hb1 : Below wr.heap.size wr (wr.alloc (.cells #[.string fn, .int .i64 x.kind, .bool x.yes, .int .i64 x.num, .string x.text, .slice px x.list.length pc, .slice py x.fields.length pd] 30)) := (Below.refl _ wr).alloc (Nat.le_refl _) _
      have hcall := vclone_any x _ _ _ hxs (V.Is.below hel hb1)
      have hZ1 : Box (wr.alloc (.cells #[.string fn, .int .i64 x.kind, .bool x.yes, .int .i64 x.num, .string x.text, .slice px x.list.length pc, .slice py x.fields.length pd] 30)) (w.heap.size + 1) 26 #[.int .i64 0, .bool false, .int .i64 0, .string ⟨#[]⟩, .slice none 0 0, .slice none 0 0] := (hb1.block _ hlt0).trans hZ
      have hb2 := hbr.trans (hb1.mono hzr)
      have hz2 := hb2.size
      by_cases hn : fn = nm
      · subst hn
        rw [if_pos rfl] at hg
        have g1 : (fn.toList == fn.toList) = true := by rw [beq_iff_eq]
        have HGG := Lib.hid hg
        have HA := Lib.hid (And.intro hb2 (And.intro hZ1 hz2))
        clear hg hb2 hZ1 hz2 hb1 hin hel hZ hbr hcl
        go_wp2_with fail
        refine hcall.mono ?_
        rintro e w3 ⟨lv', fv', rfl, hat, hb3⟩
        obtain ⟨⟨qx, qc, rfl⟩, ⟨qy, qd, rfl⟩, _, _⟩ := hat.is.len
        obtain ⟨hb2, hZ1, hz2⟩ := HA.out
        have hZ3 : Box w3 (w.heap.size + 1) 26 #[.int .i64 0, .bool false, .int .i64 0, .string ⟨#[]⟩, .slice none 0 0, .slice none 0 0] := (hb3.block _ hZ1.lt).trans hZ1
        have hb4 := hb2.trans (hb3.mono hz2)
        have hF := Box.sets [.int .i64 x.kind, .bool x.yes, .int .i64 x.num, .string x.text, .slice qx x.list.length qc, .slice qy x.fields.length qd] 0 hZ3
        obtain ⟨⟨k0, k1, k2, k3, k4, k5⟩, _⟩ := Box.six (c0 := .int .i64 x.kind) (c1 := .bool x.yes) (c2 := .int .i64 x.num) (c3 := .string x.text) (c4 := .slice qx x.list.length qc) (c5 := .slice qy x.fields.length qd) hF
        simp only [sets, Nat.zero_add, Nat.reduceAdd] at k0 k1 k2 k3 k4 k5
        have hb5 := Below.sets [.int .i64 x.kind, .bool x.yes, .int .i64 x.num, .string x.text, .slice qx x.list.length qc, .slice qy x.fields.length qd] 0 hb4 (g := w.heap.size + 1) (Nat.le_succ _)
        have hlt1 := hZ1.lt
        have hat5 : x.At (sets w3 (w.heap.size + 1) 0 [.int .i64 x.kind, .bool x.yes, .int .i64 x.num, .string x.text, .slice qx x.list.length qc, .slice qy x.fields.length qd]) (fun q => w.heap.size ≤ q) (.slice qx x.list.length qc) (.slice qy x.fields.length qd) :=
          V.At.move (fun b hb _ => ⟨by omega, sets_far _ _ _ _ (by omega)⟩) (by rw [sets_size]; exact Nat.le_refl _) _ (Nat.le_refl _) hat
        obtain ⟨⟨z0, z1, z2, z3, z4, z5⟩, s0, s1, s2, s3, s4, s5⟩ := hZ3.six
        clear hF hZ1 hb2 hb3 hb4 hZ3 hat hcall hlt1 hz2 HA
        have HO : Hid (GetP l fn w (.returned (.tuple #[.agg #[.int .i64 x.kind, .bool x.yes, .int .i64 x.num, .string x.text, .slice qx x.list.length qc, .slice qy x.fields.length qd], .bool true])) (sets w3 (w.heap.size + 1) 0 [.int .i64 x.kind, .bool x.yes, .int .i64 x.num, .string x.text, .slice qx x.list.length qc, .slice qy x.fields.length qd])) :=
          Lib.hid ⟨hb5, .inl ⟨x, _, _, HGG.out, rfl, hat5⟩⟩
        clear hb5 hat5 HGG
        go_wp2
        refine bodyPost_ret (v := .tuple #[.agg #[.int .i64 x.kind, .bool x.yes, .int .i64 x.num, .string x.text, .slice qx x.list.length qc, .slice qy x.fields.length qd], .bool true]) (by simp [results, Try.results14, go_sem, k0, k1, k2, k3, k4, k5]) rfl HO.out
      · rw [if_neg hn] at hg
        have g1 : (fn.toList == nm.toList) = false := by
          rw [beq_eq_false_iff_ne, Lib.toList_data, Lib.toList_data]; intro e; exact hn (ByteArray.ext (Array.toList_inj.1 e))
        have HGG := Lib.hid hg
        have HJ := Lib.hid hjl
        clear hg hcall hin hel hZ hb1
        go_wp2
        go_roundw
        case rel => exact ⟨j + 1, HJ.out, by have hjl := HJ.out; go_num, hb2, hZ1, HGG⟩
        case measure =>
          have hjl := HJ.out
          simp [intOf]; omega
    · have hge : ¬ (j : Int) < (l.length : Int) := by omega
      obtain rfl : j = l.length := by omega
      obtain ⟨⟨k0, k1, k2, k3, k4, k5⟩, s0, s1, s2, s3, s4, s5⟩ := hZ.six
      have hF := Box.sets [.int .i64 0, .bool false, .int .i64 0, .string ⟨#[]⟩, .slice none 0 0, .slice none 0 0] 0 hZ
      obtain ⟨⟨m0, m1, m2, m3, m4, m5⟩, _⟩ := Box.six (c0 := .int .i64 0) (c1 := .bool false) (c2 := .int .i64 0) (c3 := .string ⟨#[]⟩) (c4 := .slice none 0 0) (c5 := .slice none 0 0) hF
      simp only [sets, Nat.zero_add, Nat.reduceAdd] at m0 m1 m2 m3 m4 m5
      have hb5 := Below.sets [.int .i64 0, .bool false, .int .i64 0, .string ⟨#[]⟩, .slice none 0 0, .slice none 0 0] 0 hbr (g := w.heap.size + 1) (Nat.le_succ _)
      have HO : Hid (GetP l nm w (.returned (.tuple #[.agg #[.int .i64 0, .bool false, .int .i64 0, .string ⟨#[]⟩, .slice none 0 0, .slice none 0 0], .bool false])) (sets wr (w.heap.size + 1) 0 [.int .i64 0, .bool false, .int .i64 0, .string ⟨#[]⟩, .slice none 0 0, .slice none 0 0])) :=
        Lib.hid ⟨hb5, .inr ⟨by rw [HG.out, List.drop_length]; rfl, rfl⟩⟩
      clear hjl hF hZ hbr hb5 HG
      go_wp2
      refine bodyPost_ret (v := .tuple #[.agg #[.int .i64 0, .bool false, .int .i64 0, .string ⟨#[]⟩, .slice none 0 0, .slice none 0 0], .bool false]) (by simp [results, Try.results14, go_sem, m0, m1, m2, m3, m4, m5]) rfl HO.out

end Go.Proofs.Ytcocljgafhpdaaa
end

section
namespace Go.Proofs.Ytcocljgafhpdaaa
open Go.RowKit

attribute [-go_sem] Builtin.append_

def offF (l : List Fd) (n : ByteArray) : List Fd := l.filter fun p => !decide (p.1 = n)

def WithoutP (l : List Fd) (n : ByteArray) (w : World) (e : Ending) (w' : World) : Prop :=
  Below w.heap.size w w' ∧ ∃ fv, e = .returned (.agg #[.int .i64 5, .bool false, .int .i64 0, .string ⟨#[]⟩, .slice none 0 0, fv]) ∧ FRow w' w.heap.size fv (offF l n)

theorem FRow.belowW {w w' : World} {B : Nat} {vv : Value} {vs : List Fd} (h : FRow w B vv vs) (hb : Below w.heap.size w w') : FRow w' B vv vs := h.keep (fun b _ hlt => hb.block b hlt) hb.size

theorem FRow.ownW {w : World} {B : Nat} {vv : Value} {vs : List Fd} (h : FRow w B vv vs) : ∀ q, vv.ownBlock = some q → B ≤ q ∧ q < w.heap.size := by
  obtain ⟨cs, h1, _⟩ := h
  exact fun q hq => World.ownsRow.lt h1 q hq

theorem FRow.base {w : World} {B B' : Nat} {vv : Value} {vs : List Fd} (h : FRow w B vv vs) (hb : B' ≤ B) : FRow w B' vv vs := by
  obtain ⟨cs, h1, h2⟩ := h
  exact ⟨cs, ⟨h1.1, h1.2.imp id fun ⟨g, cap, cur, e1, e2, e3⟩ => ⟨g, cap, cur, e1, Nat.le_trans hb e2, e3⟩⟩, fun i hi => by
    obtain ⟨lv, fv, g1, g2⟩ := h2 i hi
    exact ⟨lv, fv, g1, V.At.move (fun b hS _ => ⟨⟨Nat.le_trans hb hS.1, hS.2⟩, rfl⟩) (Nat.le_refl _) _ (Nat.le_refl _) g2⟩⟩

theorem boxes3 (w : World) (a0 a1 a2 : Array Value) (t : TypeId) :
    Box (((w.alloc (.cells a0 t)).alloc (.cells a1 t)).alloc (.cells a2 t)) (w.heap.size + 1) t a1 ∧ Box (((w.alloc (.cells a0 t)).alloc (.cells a1 t)).alloc (.cells a2 t)) (w.heap.size + 1 + 1) t a2 ∧
      Below w.heap.size w (((w.alloc (.cells a0 t)).alloc (.cells a1 t)).alloc (.cells a2 t)) := by
  have h1 := Box.new (w.alloc (.cells a0 t)) t a1
  have h2 := Box.new ((w.alloc (.cells a0 t)).alloc (.cells a1 t)) t a2
  have e1 : (w.alloc (.cells a0 t)).heap.size = w.heap.size + 1 := by simp
  have e2 : ((w.alloc (.cells a0 t)).alloc (.cells a1 t)).heap.size = w.heap.size + 1 + 1 := by simp
  rw [e1] at h1
  rw [e2] at h2
  exact ⟨h1.alloc _, h2, (((Below.refl _ w).alloc (Nat.le_refl _) _).alloc (by omega) _).alloc (by omega) _⟩

/-- behind so many fields -/
def WO (w : World) (l : List Fd) (nm : ByteArray) (j : Nat) (wr : World) : Prop :=
  ∃ va vc, Box wr (w.heap.size + 1) 26 #[.int .i64 0, .bool false, .int .i64 0, .string ⟨#[]⟩, .slice none 0 0, .slice none 0 0] ∧ Box wr (w.heap.size + 1 + 1) 26 #[.int .i64 5, .bool false, .int .i64 0, .string ⟨#[]⟩, .slice none 0 0, .slice va (offF (l.take j) nm).length vc] ∧
    FRow wr (w.heap.size + 3) (.slice va (offF (l.take j) nm).length vc) (offF (l.take j) nm) ∧ Below w.heap.size w wr

set_option maxHeartbeats 4000000 in
set_option maxRecDepth 100000 in
theorem without_map (y : Bool) (m : Int) (t : ByteArray) (ax : Option Addr) (lx cx : Nat) (l : List Fd) (nm : ByteArray) (lv : Value) (w : World) (hsm : ∀ x ∈ l, x.2.sm) (hlen : l.length ≤ 100000) (hl : FAt w All l lv) :
    Calls Try.prog 16 #[.agg #[.int .i64 5, .bool y, .int .i64 m, .string t, .slice ax lx cx, lv], .string nm] w (WithoutP l nm w) := by
  obtain ⟨a, c, rfl, hc1, hc2, hcl⟩ := hl
  have hof := fun W => fieldsOf_map y m t ax lx cx a l.length c W
  have HSM := Lib.hid hsm
  have HC := Lib.hid hcl
  have HW : Hid (∀ w1, Below (((w.alloc (.cells #[.int .i64 5, .bool y, .int .i64 m, .string t, .slice ax lx cx, .slice a l.length c] 26)).alloc (.cells #[.int .i64 0, .bool false, .int .i64 0, .string ⟨#[]⟩, .slice none 0 0, .slice none 0 0] 26)).alloc (.cells #[.int .i64 5, .bool false, .int .i64 0, .string ⟨#[]⟩, .slice none 0 0, .slice none 0 0] 26)).heap.size (((w.alloc (.cells #[.int .i64 5, .bool y, .int .i64 m, .string t, .slice ax lx cx, .slice a l.length c] 26)).alloc (.cells #[.int .i64 0, .bool false, .int .i64 0, .string ⟨#[]⟩, .slice none 0 0, .slice none 0 0] 26)).alloc (.cells #[.int .i64 5, .bool false, .int .i64 0, .string ⟨#[]⟩, .slice none 0 0, .slice none 0 0] 26)) w1 → WO w l nm 0 w1) := Lib.hid fun w1 hb1 => by
    obtain ⟨e1, e2, e3⟩ := boxes3 w #[.int .i64 5, .bool y, .int .i64 m, .string t, .slice ax lx cx, .slice a l.length c] #[.int .i64 0, .bool false, .int .i64 0, .string ⟨#[]⟩, .slice none 0 0, .slice none 0 0] #[.int .i64 5, .bool false, .int .i64 0, .string ⟨#[]⟩, .slice none 0 0, .slice none 0 0] 26
    have hsz : (((w.alloc (.cells #[.int .i64 5, .bool y, .int .i64 m, .string t, .slice ax lx cx, .slice a l.length c] 26)).alloc (.cells #[.int .i64 0, .bool false, .int .i64 0, .string ⟨#[]⟩, .slice none 0 0, .slice none 0 0] 26)).alloc (.cells #[.int .i64 5, .bool false, .int .i64 0, .string ⟨#[]⟩, .slice none 0 0, .slice none 0 0] 26)).heap.size = w.heap.size + 3 := by simp
    refine ⟨none, 0, (hb1.block _ e1.lt).trans e1, (hb1.block _ e2.lt).trans e2, FRow.nil _ _, e3.trans (hb1.mono (by omega))⟩
  clear hsm hcl
  go_enter Try.func16, Try.ntmps16
  go_wp2_with fail
  refine (hof _).mono ?_
  rintro e w1 ⟨rfl, hb1⟩
  have HST := Lib.hid (HW.out w1 hb1)
  clear hof HW hb1
  go_wp2_with fail
  go_loopw [12] (fun cc wr => ∃ (j : Nat), j ≤ l.length ∧ cc = .int .i64 j ∧ Hid (WO w l nm j wr)) (fun cc _ => l.length - (intOf cc).toNat)
  case atStart => exact ⟨0, Nat.zero_le _, rfl, HST⟩
  case round =>
    clear HST
    obtain ⟨j, hj, rfl, HO⟩ := hrel
    by_cases hjl : j < l.length
    · have hjl' : (j : Int) < (l.length : Int) := by omega
      obtain ⟨va, vc, hZ, hO, hrow, hb⟩ := HO.out
      have hzr := hb.size
      have hOlt := hO.lt
      obtain ⟨b0, off, ea, hbl, hC⟩ : ∃ b0 off, a = some ⟨b0, off, none⟩ ∧ b0 < wr.heap.size ∧ FCells wr All b0 off l := by
        rcases HC.out with h | ⟨b0, off, ea, _, hb0, hC⟩
        · rw [h] at hjl; simp at hjl
        · exact ⟨b0, off, ea, Nat.lt_of_lt_of_le hb0 hb.size, FCells.keepAll hC hb hb0⟩
      subst ea
      obtain ⟨lx', fx, hin, hel⟩ := hC.get hjl
      have hxs := HSM.out _ (List.getElem_mem hjl)
      have htk : offF (l.take (j + 1)) nm = offF (l.take j) nm ++ (if (l[j]).1 = nm then [] else [l[j]]) := by
        unfold offF
        rw [List.take_succ_eq_append_getElem hjl, List.filter_append]
        by_cases h : (l[j]).1 = nm <;> simp [h]
      have hn9 : (offF (l.take j) nm).length ≤ 100000 := by
        have h1 := List.length_filter_le (fun p : Fd => !decide (p.1 = nm)) (l.take j)
        rw [List.length_take] at h1
        unfold offF
        omega
      obtain ⟨rows, hrows⟩ : ∃ r, r = offF (l.take j) nm := ⟨_, rfl⟩
      rw [← hrows] at hO hrow htk hn9
      have hWO : ∀ W, WO w l nm (j + 1) W ↔ ∃ va vc, Box W (w.heap.size + 1) 26 #[.int .i64 0, .bool false, .int .i64 0, .string ⟨#[]⟩, .slice none 0 0, .slice none 0 0] ∧ Box W (w.heap.size + 1 + 1) 26 #[.int .i64 5, .bool false, .int .i64 0, .string ⟨#[]⟩, .slice none 0 0, .slice va (offF (l.take (j + 1)) nm).length vc] ∧
        FRow W (w.heap.size + 3) (.slice va (offF (l.take (j + 1)) nm).length vc) (offF (l.take (j + 1)) nm) ∧ Below w.heap.size w W := fun W => Iff.rfl
      rw [htk] at hWO
      obtain ⟨p, hpe⟩ : ∃ y, y = l[j] := ⟨_, rfl⟩
      rw [← hpe] at hin hel hxs hWO
      obtain ⟨nm0, x⟩ := p
      have HWO := Lib.hid hWO
      have HLT0 := Lib.hid hjl
      clear hpe hC htk hWO hrows HO
      replace hel : x.Is wr lx' fx := hel
      replace hin : InAt wr b0 (off + j * 7) (.string nm0 :: x.cells lx' fx) := hin
      replace hxs : x.sm := hxs
      obtain ⟨⟨px, pc, rfl⟩, ⟨py, pd, rfl⟩, _, _⟩ := hel.len
      obtain ⟨p0, p1, p2, p3, p4, p5, p6⟩ := hin.seven
      by_cases hn : nm0 = nm
      · subst hn
        have g1 : (nm0.toList == nm0.toList) = true := by rw [beq_iff_eq]
        have HE : Hid (WO w l nm0 (j + 1) (wr.alloc (.cells #[.string nm0, .int .i64 x.kind, .bool x.yes, .int .i64 x.num, .string x.text, .slice px x.list.length pc, .slice py x.fields.length pd] 30))) := Lib.hid (by
          rw [HWO.out, if_pos rfl, List.append_nil]
          have hb1 : Below wr.heap.size wr (wr.alloc (.cells #[.string nm0, .int .i64 x.kind, .bool x.yes, .int .i64 x.num, .string x.text, .slice px x.list.length pc, .slice py x.fields.length pd] 30)) := (Below.refl _ wr).alloc (Nat.le_refl _) _
          exact ⟨va, vc, hZ.alloc _, hO.alloc _, hrow.belowW hb1, hb.trans (hb1.mono hzr)⟩)
        clear hin hel hrow hO hZ hb hjl HWO
        go_wp2
        go_roundw
        case rel => exact ⟨j + 1, HLT0.out, by have := HLT0.out; go_num, HE⟩
        case measure => have := HLT0.out; simp [intOf]; omega
      · have g1 : (nm0.toList == nm.toList) = false := by
          rw [beq_eq_false_iff_ne, Lib.toList_data, Lib.toList_data]; intro e; exact hn (ByteArray.ext (Array.toList_inj.1 e))
        obtain ⟨n, hnn⟩ : ∃ n, n = rows.length := ⟨_, rfl⟩
        rw [← hnn] at hO hrow hn9
        have hb1 : Below wr.heap.size wr (wr.alloc (.cells #[.string nm0, .int .i64 x.kind, .bool x.yes, .int .i64 x.num, .string x.text, .slice px x.list.length pc, .slice py x.fields.length pd] 30)) := (Below.refl _ wr).alloc (Nat.le_refl _) _
        have esz : (wr.alloc (.cells #[.string nm0, .int .i64 x.kind, .bool x.yes, .int .i64 x.num, .string x.text, .slice px x.list.length pc, .slice py x.fields.length pd] 30)).drew.heap.size = wr.heap.size + 1 := by
          show (wr.alloc (.cells #[.string nm0, .int .i64 x.kind, .bool x.yes, .int .i64 x.num, .string x.text, .slice px x.list.length pc, .slice py x.fields.length pd] 30)).heap.size = _
          simp
        have hcall := cloneFd_any x.dep (clone_all x.dep) nm0 x _ _ (wr.alloc (.cells #[.string nm0, .int .i64 x.kind, .bool x.yes, .int .i64 x.num, .string x.text, .slice px x.list.length pc, .slice py x.fields.length pd] 30)).drew (Nat.le_refl _) hxs (V.At.drew (V.Is.below hel hb1))
        have HCALL := Lib.hid hcall
        have HSL : Hid (∀ w3, Below (wr.alloc (.cells #[.string nm0, .int .i64 x.kind, .bool x.yes, .int .i64 x.num, .string x.text, .slice px x.list.length pc, .slice py x.fields.length pd] 30)).drew.heap.size (wr.alloc (.cells #[.string nm0, .int .i64 x.kind, .bool x.yes, .int .i64 x.num, .string x.text, .slice px x.list.length pc, .slice py x.fields.length pd] 30)).drew w3 → Below wr.heap.size wr w3 ∧ wr.heap.size + 1 ≤ w3.heap.size ∧ Box w3 wr.heap.size 30 #[.string nm0, .int .i64 x.kind, .bool x.yes, .int .i64 x.num, .string x.text, .slice px x.list.length pc, .slice py x.fields.length pd] ∧ Box w3 (w.heap.size + 1 + 1) 26 #[.int .i64 5, .bool false, .int .i64 0, .string ⟨#[]⟩, .slice none 0 0, .slice va n vc]) := Lib.hid (fun w3 hb3 => by
          have h3 : Below wr.heap.size wr w3 := hb1.drew.trans (hb3.mono (by rw [esz]; omega))
          exact ⟨h3, by have := hb3.size; rw [esz] at this; exact this, (hb3.block _ (by rw [esz]; omega)).trans (Box.new wr _ _), (h3.block _ hOlt).trans hO⟩)
        have HK : Hid (∀ w3 lv' fv', x.At w3 (fun q => (wr.alloc (.cells #[.string nm0, .int .i64 x.kind, .bool x.yes, .int .i64 x.num, .string x.text, .slice px x.list.length pc, .slice py x.fields.length pd] 30)).drew.heap.size ≤ q) lv' fv' → Below (wr.alloc (.cells #[.string nm0, .int .i64 x.kind, .bool x.yes, .int .i64 x.num, .string x.text, .slice px x.list.length pc, .slice py x.fields.length pd] 30)).drew.heap.size (wr.alloc (.cells #[.string nm0, .int .i64 x.kind, .bool x.yes, .int .i64 x.num, .string x.text, .slice px x.list.length pc, .slice py x.fields.length pd] 30)).drew w3 →
            ∃ qa qc w4, (Builtin.append_ #[22, 22] 22 #[.slice va n vc, .slice (some ⟨w3.heap.size, 0, none⟩) 1 1]).run Try.prog (w3.alloc (.cells #[.string nm0, .int .i64 x.kind, .bool x.yes, .int .i64 x.num, .string x.text, lv', fv'] 30)) = .ok (.slice qa (n + 1) qc) w4 ∧
              Box w4 (w.heap.size + 1 + 1) 26 #[.int .i64 5, .bool false, .int .i64 0, .string ⟨#[]⟩, .slice none 0 0, .slice va n vc] ∧ WO w l nm (j + 1) (w4.setCell ⟨w.heap.size + 1 + 1, 5, none⟩ (.slice qa (n + 1) qc))) := Lib.hid (fun w3 lv' fv' hat hb3 => by
          obtain ⟨hb3w, hsz, _, hO3⟩ := HSL.out w3 hb3
          have hrow3 := hrow.belowW hb3w
          obtain ⟨vv', w4, hr, hrow4, hup⟩ := run_app_f w3 (w.heap.size + 3) (.slice va n vc) rows hrow3 (nm0, x) lv' fv' hat.is.len.1 hat.is.len.2.1 (hat.wider (fun q hq => ⟨by
            rw [esz] at hq; omega, fun e2 => by
            rw [esz] at hq
            have := (hrow.ownW q e2).2
            omega⟩)) 1 (by omega) (by omega)
          have hne : ∀ q, (Value.slice va n vc).ownBlock = some q → w.heap.size + 3 ≤ q := fun q hq => (hrow.ownW q hq).1
          have hn1 : (rows ++ [(nm0, x)]).length = n + 1 := by rw [List.length_append, ← hnn]; rfl
          obtain ⟨qa, qc, rfl, _, _⟩ := hrow4.form
          rw [hn1] at hr hrow4 hup
          have hZ4 : Box w4 (w.heap.size + 1) 26 #[.int .i64 0, .bool false, .int .i64 0, .string ⟨#[]⟩, .slice none 0 0, .slice none 0 0] := (hup.1.block _ (by omega) (fun e => by have := hne _ e.symm; omega)).trans ((hb3w.block _ (by omega)).trans hZ)
          have hO4 : Box w4 (w.heap.size + 1 + 1) 26 #[.int .i64 5, .bool false, .int .i64 0, .string ⟨#[]⟩, .slice none 0 0, .slice va n vc] := (hup.1.block _ (by omega) (fun e => by have := hne _ e.symm; omega)).trans hO3
          have hb4 : Below w.heap.size w w4 := (hb.trans (hb3w.mono hzr)).grown hup.1 (by omega) (fun q hq => by have := hne q hq; omega)
          refine ⟨qa, qc, w4, hr, hO4, ?_⟩
          rw [HWO.out, if_neg hn, hn1]
          have hset := hO4.setSame 5 (.slice qa (n + 1) qc)
          refine ⟨qa, qc, hZ4.setFar (by show w.heap.size + 1 ≠ w.heap.size + 1 + 1; omega) _, hset, hrow4.keep (fun b hb9 _ => Below.heap_setCell w4 _ _ b (by show b ≠ w.heap.size + 1 + 1; omega)) (by simp [World.setCell]), hb4.setCell (by show w.heap.size ≤ w.heap.size + 1 + 1; omega) _⟩)
        have c5 := (hO.six).1.2.2.2.2.2
        have k5 := (hO.six).2.2.2.2.2.2
        clear hin hel hcall hb1 hrow hZ hb hjl HWO esz hn hnn hn9
        go_wp2_with fail
        go_region_with ((go_at_call 37; refine HCALL.out.mono ?_; rintro e w3 ⟨lv', fv', rfl, hat, hb3⟩; obtain ⟨qa, qc, w4, hr, hO4, hfin⟩ := HK.out w3 lv' fv' hat hb3; have HE := Lib.hid hfin; obtain ⟨⟨l0, l1, rfl⟩, ⟨l2, l3, rfl⟩, _, _⟩ := hat.is.len; obtain ⟨r0, r1, r2, r3, r4, r5, r6⟩ := (HSL.out w3 hb3).2.2.1.seven; have t5 := (HSL.out w3 hb3).2.2.2.six.1.2.2.2.2.2; have v5 := ((HSL.out w3 hb3).2.2.2.alloc (.cells #[.string nm0, .int .i64 x.kind, .bool x.yes, .int .i64 x.num, .string x.text, .slice l0 x.list.length l1, .slice l2 x.fields.length l3] 30)).six.1.2.2.2.2.2; have x5 := hO4.six.1.2.2.2.2.2; have y5 := hO4.six.2.2.2.2.2.2; clear hfin hO4 hat hb3))
        all_goals
          go_wp2
          go_roundw
          case rel => exact ⟨j + 1, HLT0.out, by have := HLT0.out; go_num, HE⟩
          case measure => have := HLT0.out; simp [intOf]; omega
    · have hge : ¬ (j : Int) < (l.length : Int) := by omega
      obtain rfl : j = l.length := by omega
      obtain ⟨va, vc, hZ, hO, hrow, hb⟩ := HO.out
      rw [List.take_of_length_le (Nat.le_refl _)] at hO hrow
      have HEND : Hid (Box wr (w.heap.size + 1) 26 #[.int .i64 0, .bool false, .int .i64 0, .string ⟨#[]⟩, .slice none 0 0, .slice none 0 0] ∧ Box wr (w.heap.size + 1 + 1) 26 #[.int .i64 5, .bool false, .int .i64 0, .string ⟨#[]⟩, .slice none 0 0, .slice va (offF l nm).length vc] ∧ FRow wr (w.heap.size + 3) (.slice va (offF l nm).length vc) (offF l nm) ∧ Below w.heap.size w wr) := Lib.hid ⟨hZ, hO, hrow, hb⟩
      obtain ⟨⟨k0, k1, k2, k3, k4, k5⟩, _⟩ := hO.six
      obtain ⟨_, s0, s1, s2, s3, s4, s5⟩ := hZ.six
      obtain ⟨⟨z0, z1, z2, z3, z4, z5⟩, _⟩ := hZ.six
      have hF := Box.sets [.int .i64 5, .bool false, .int .i64 0, .string ⟨#[]⟩, .slice none 0 0, .slice va (offF l nm).length vc] 0 hZ
      obtain ⟨⟨m0, m1, m2, m3, m4, m5⟩, _⟩ := Box.six (c0 := .int .i64 5) (c1 := .bool false) (c2 := .int .i64 0) (c3 := .string ⟨#[]⟩) (c4 := .slice none 0 0) (c5 := .slice va (offF l nm).length vc) hF
      simp only [sets, Nat.zero_add, Nat.reduceAdd] at m0 m1 m2 m3 m4 m5
      have hb5 := Below.sets [.int .i64 5, .bool false, .int .i64 0, .string ⟨#[]⟩, .slice none 0 0, .slice va (offF l nm).length vc] 0 hb (g := w.heap.size + 1) (Nat.le_succ _)
      have hrow5 : FRow (sets wr (w.heap.size + 1) 0 [.int .i64 5, .bool false, .int .i64 0, .string ⟨#[]⟩, .slice none 0 0, .slice va (offF l nm).length vc]) (w.heap.size + 3) (.slice va (offF l nm).length vc) (offF l nm) := hrow.keep (fun b hb9 _ => sets_far _ _ _ _ (by omega)) (by rw [sets_size]; exact Nat.le_refl _)
      have HO9 : Hid (WithoutP l nm w (.returned (.agg #[.int .i64 5, .bool false, .int .i64 0, .string ⟨#[]⟩, .slice none 0 0, .slice va (offF l nm).length vc])) (sets wr (w.heap.size + 1) 0 [.int .i64 5, .bool false, .int .i64 0, .string ⟨#[]⟩, .slice none 0 0, .slice va (offF l nm).length vc])) :=
        Lib.hid ⟨hb5, _, rfl, hrow5.base (by omega)⟩
      clear hZ hO hrow hb HO hjl hF hb5 hrow5 HEND
      go_wp2
      exact bodyPost_ret (v := .agg #[.int .i64 5, .bool false, .int .i64 0, .string ⟨#[]⟩, .slice none 0 0, .slice va (offF l nm).length vc]) (by simp [results, Try.results16, go_sem, m0, m1, m2, m3, m4, m5]) rfl HO9.out

end Go.Proofs.Ytcocljgafhpdaaa
end

section
namespace Go.Proofs.Ytcocljgafhpdaaa
open Go.RowKit

theorem run_copy_cellsK {P : Program} (w : World) (dT sT ty elem : TypeId) (k : Nat) (b o dLen dCap : Nat) (a : Addr) (sLen sCap n : Nat) (cs : List Value)
    (hu : P.underlying dT = some (.slice elem)) (hs : (P.info? elem).map (·.size) = some k) (hn : n = Nat.min sLen dLen) (hcl : cs.length = n * k)
    (hsrc : ∀ j v, cs[j]? = some v → w.cell? (a.add j) = some v) (hc : ∀ j, j < cs.length → (w.cell? ⟨b, o + j, none⟩).isSome = true) (hf : ∀ j, j < cs.length → w.frozen? ⟨b, o + j, none⟩ = false) (h1 : ∀ v ∈ cs, v.oneCell' = true) :
    (Builtin.copy_ #[dT, sT] ty #[.slice (some ⟨b, o, none⟩) dLen dCap, .slice (some a) sLen sCap]).run P w = .ok (goInt n) (w.setCells b o cs) := by
  have hl := run_loadCells_list (P := P) w a cs hsrc
  rw [hcl] at hl
  have hst := run_storeCells_cells (P := P) b o cs 0 w (by simpa using hc) (by simpa using hf) h1
  cases hq : P.info? elem with
  | none => simp [hq] at hs
  | some i =>
    have hi : i.size = k := by simpa [hq] using hs
    simp [Builtin.copy_, run_underlying hu, Builtin.lenOf, Builtin.firstCells, sizeOf, typeInfo, hq, hi, ← hn, hl, hst]

/-- a copy as the walk meets it, where its run is known -/
theorem wpList_copy_runK {P : Program} (w : World) {ops : Array Oper} {rest : List Oper} {o : Oper} {a : Act} {Q : Exit → Act → World → Prop} (hgd : o.guard = none) (d s : Operand) (t t' : TypeId)
    (ho : o.op = .call { callee := .builtin .copy, args := #[d, s], argTypes := #[t, t'] }) (v u : Value) (hd : a.eval d = v) (hs : a.eval s = u) {v' : Value} {w' : World}
    (hr : (Builtin.copy_ #[t, t'] o.type #[v, u]).run P w = .ok v' w') (h : wpList P ops Q rest (a.put o.dst v') w') : wpList P ops Q (o :: rest) a w := by
  refine wpList_plain hgd fun K hK => ?_
  unfold Oper.wp execOp
  simp only [ho, resolve, invoke, builtin, Sem.run_bind, Sem.run_pure, Result.andThen_ok, List.map_toArray, List.map_cons, List.map_nil, hd, hs, hr]
  exact hK _ _ h

end Go.Proofs.Ytcocljgafhpdaaa
end

section
namespace Go.Proofs.Ytcocljgafhpdaaa
open Go.RowKit Go.Lib

set_option linter.unusedVariables false

def insF (rows : List Fd) (i : Nat) (f : Fd) : List Fd := rows.take i ++ f :: rows.drop i

theorem insF_length {rows : List Fd} {i : Nat} {f : Fd} (h : i ≤ rows.length) : (insF rows i f).length = rows.length + 1 := by
  unfold insF
  rw [List.length_append, List.length_cons, List.length_take, List.length_drop]
  omega

theorem insF_get {rows : List Fd} {i : Nat} {f : Fd} (hi : i ≤ rows.length) (k : Nat) (hk : k < (insF rows i f).length) :
    (∃ h : k < rows.length, k < i ∧ (insF rows i f)[k] = rows[k]) ∨ (k = i ∧ (insF rows i f)[k] = f) ∨ (∃ h : k - 1 < rows.length, i < k ∧ (insF rows i f)[k] = rows[k - 1]) := by
  have hkl := hk
  rw [insF_length hi] at hkl
  have hl : (rows.take i).length = i := by rw [List.length_take]; omega
  have at' : ∀ x, (insF rows i f)[k]? = some x → (insF rows i f)[k] = x := fun x h => Option.some.inj ((List.getElem?_eq_getElem hk).symm.trans h)
  by_cases h1 : k < i
  · have h : k < rows.length := by omega
    refine .inl ⟨h, h1, at' _ ?_⟩
    unfold insF
    rw [List.getElem?_append_left (by omega), List.getElem?_take, if_pos h1, List.getElem?_eq_getElem h]
  · by_cases h2 : k = i
    · refine .inr (.inl ⟨h2, at' _ ?_⟩)
      unfold insF
      rw [List.getElem?_append_right (by omega), hl, h2, Nat.sub_self]
      rfl
    · have h : k - 1 < rows.length := by omega
      refine .inr (.inr ⟨h, by omega, at' _ ?_⟩)
      unfold insF
      rw [List.getElem?_append_right (by omega), hl]
      obtain ⟨q, hq⟩ : ∃ q, k - i = q + 1 := ⟨k - i - 1, by omega⟩
      rw [hq, List.getElem?_cons_succ, List.getElem?_drop, show i + q = k - 1 by omega, List.getElem?_eq_getElem h]

/-- as FRow; what the values lead to lies in blocks of P -/
def FRowP (w : World) (B : Nat) (P : Nat → Prop) (vv : Value) (vs : List Fd) : Prop :=
  ∃ cs, w.ownsRow B 30 7 vv vs.length cs ∧ ∀ i (h : i < vs.length), ∃ lv fv, (∀ j u, (fcells (vs[i]) lv fv)[j]? = some u → cs[i * 7 + j]? = some u) ∧ (vs[i]).2.At w (fun x => P x ∧ vv.ownBlock ≠ some x) lv fv

theorem FRowP.form {w : World} {B : Nat} {P : Nat → Prop} {vv : Value} {vs : List Fd} (h : FRowP w B P vv vs) : ∃ a c, vv = .slice a vs.length c ∧ vs.length ≤ c ∧ c ≤ maxLen := by
  obtain ⟨cs, h, _⟩ := h
  rcases h.2 with ⟨rfl, h0⟩ | ⟨g, cap, cur, rfl, _, _, h1, h2, _⟩
  · exact ⟨none, 0, by rw [h0], by omega, by unfold maxLen; omega⟩
  · exact ⟨_, _, rfl, h1, h2⟩

theorem FRowP.own {w : World} {B : Nat} {P : Nat → Prop} {vv : Value} {vs : List Fd} (h : FRowP w B P vv vs) : ∀ q, vv.ownBlock = some q → B ≤ q ∧ q < w.heap.size := by
  obtain ⟨cs, h1, _⟩ := h
  exact fun q hq => World.ownsRow.lt h1 q hq

theorem FRowP.keep {w w' : World} {B : Nat} {P P' : Nat → Prop} {vv : Value} {vs : List Fd} (h : FRowP w B P vv vs) (hk : ∀ b, P b → b < w.heap.size → P' b ∧ w'.heap[b]? = w.heap[b]?) (ho : ∀ b, vv.ownBlock = some b → w'.heap[b]? = w.heap[b]?) (hz : w.heap.size ≤ w'.heap.size) : FRowP w' B P' vv vs := by
  obtain ⟨cs, h1, h2⟩ := h
  refine ⟨cs, ⟨h1.1, ?_⟩, fun i hi => ?_⟩
  · rcases h1.2 with h | ⟨g, cap, cur, e1, e2, e3, e4⟩
    · exact .inl h
    · exact .inr ⟨g, cap, cur, e1, e2, (ho g (by rw [e1]; rfl)).trans e3, e4⟩
  · obtain ⟨lv, fv, g1, g2⟩ := h2 i hi
    exact ⟨lv, fv, g1, V.At.move (fun b hS hlt => ⟨⟨(hk b hS.1 hlt).1, hS.2⟩, (hk b hS.1 hlt).2⟩) hz _ (Nat.le_refl _) g2⟩

theorem FRow.toP {w : World} {B : Nat} {vv : Value} {vs : List Fd} (h : FRow w B vv vs) : FRowP w B (fun x => B ≤ x) vv vs := h
theorem FRowP.toRow {w : World} {B B' : Nat} {P : Nat → Prop} {vv : Value} {vs : List Fd} (h : FRowP w B P vv vs) (hB : B' ≤ B) (hP : ∀ x, P x → B' ≤ x) : FRow w B' vv vs := by
  obtain ⟨cs, h1, h2⟩ := h
  exact ⟨cs, ⟨h1.1, h1.2.imp id fun ⟨g, cap, cur, e1, e2, e3⟩ => ⟨g, cap, cur, e1, Nat.le_trans hB e2, e3⟩⟩, fun i hi => by
    obtain ⟨lv, fv, g1, g2⟩ := h2 i hi
    exact ⟨lv, fv, g1, g2.wider fun q hq => ⟨hP q hq.1, hq.2⟩⟩⟩

/-- a row behind an insert, by its block -/
theorem FRowP.inserted {w' : World} {B n i G C : Nat} {P : Nat → Prop} {rows : List Fd} {f : Fd} {lv fv : Value} {cs : List Value} {arr : Array Value} (hn : rows.length = n) (hi : i ≤ n) (hcs : cs.length = n * 7)
    (hbox : Box w' G 30 arr) (hsz : arr.size = C * 7) (hC : n + 1 ≤ C) (hC2 : C ≤ maxLen) (hG : B ≤ G)
    (h1 : ∀ q, q < i * 7 → arr[q]? = cs[q]?) (h2 : ∀ q, q < 7 → arr[i * 7 + q]? = (fcells f lv fv)[q]?) (h3 : ∀ q, q < (n - i) * 7 → arr[(i + 1) * 7 + q]? = cs[i * 7 + q]?)
    (hold : ∀ k (h : k < rows.length), ∃ lv fv, (∀ j u, (fcells (rows[k]) lv fv)[j]? = some u → cs[k * 7 + j]? = some u) ∧ (rows[k]).2.At w' (fun x => P x ∧ x ≠ G) lv fv)
    (hf : f.2.At w' (fun x => P x ∧ x ≠ G) lv fv) : FRowP w' B P (.slice (some ⟨G, 0, none⟩) (n + 1) C) (insF rows i f) := by
  have hl := insF_length (f := f) (i := i) (rows := rows) (by omega)
  rw [hn] at hl
  have h7 : ∀ (p : Fd) a b j u, (fcells p a b)[j]? = some u → j < 7 := fun p a b j u h => (List.getElem?_eq_some_iff.1 h).1
  refine ⟨arr.toList.take ((n + 1) * 7), ⟨?_, .inr ⟨G, C, arr, by rw [hl], hG, hbox, by rw [hl]; exact hC, hC2, hsz, by rw [hl]⟩⟩, fun k hk => ?_⟩
  · rw [List.length_take, Array.length_toList, hsz, hl]
    omega
  · have hget : ∀ q u, arr[q]? = some u → q < (n + 1) * 7 → (arr.toList.take ((n + 1) * 7))[q]? = some u := fun q u h hq => by
      rw [List.getElem?_take, if_pos hq, Array.getElem?_toList, h]
    have hn1 : ∀ x, x ≠ G → (Value.slice (some ⟨G, 0, none⟩) (n + 1) C).ownBlock ≠ some x := fun x hx e => hx (by simpa [Value.ownBlock] using e.symm)
    have hkn : k < n + 1 := by omega
    rcases insF_get (f := f) (i := i) (rows := rows) (by omega) k hk with ⟨h, hki, e⟩ | ⟨rfl, e⟩ | ⟨h, hki, e⟩
    · obtain ⟨a, b, g1, g2⟩ := hold k h
      rw [e]
      refine ⟨a, b, fun j u hj => ?_, V.At.move (fun x hS _ => ⟨⟨hS.1, hn1 x hS.2⟩, rfl⟩) (Nat.le_refl _) _ (Nat.le_refl _) g2⟩
      have hj7 := h7 _ _ _ _ _ hj
      exact hget _ u ((h1 _ (by omega)).trans (g1 j u hj)) (by omega)
    · rw [e]
      refine ⟨lv, fv, fun j u hj => ?_, V.At.move (fun x hS _ => ⟨⟨hS.1, hn1 x hS.2⟩, rfl⟩) (Nat.le_refl _) _ (Nat.le_refl _) hf⟩
      have hj7 := h7 _ _ _ _ _ hj
      exact hget _ u ((h2 j hj7).trans hj) (by omega)
    · obtain ⟨a, b, g1, g2⟩ := hold (k - 1) h
      rw [e]
      refine ⟨a, b, fun j u hj => ?_, V.At.move (fun x hS _ => ⟨⟨hS.1, hn1 x hS.2⟩, rfl⟩) (Nat.le_refl _) _ (Nat.le_refl _) g2⟩
      have hj7 := h7 _ _ _ _ _ hj
      have h9 := h3 ((k - 1 - i) * 7 + j) (by omega)
      rw [show (i + 1) * 7 + ((k - 1 - i) * 7 + j) = k * 7 + j by omega, show i * 7 + ((k - 1 - i) * 7 + j) = (k - 1) * 7 + j by omega] at h9
      exact hget _ u (h9.trans (g1 j u hj)) (by omega)

def InsP (w : World) (B : Nat) (P : Nat → Prop) (vv : Value) (vs : List Fd) (e : Ending) (w' : World) : Prop := ∃ vv', e = .returned vv' ∧ FRowP w' B P vv' vs ∧ Up w vv w' vv'

abbrev FLDS := 22

set_option maxHeartbeats 4000000 in
set_option maxRecDepth 100000 in
/-- at the end -/
theorem ins_end {w : World} {B n vb : Nat} {P : Nat → Prop} {rows : List Fd} {vv : Value} {f : Fd} {lv fv : Value} (hrow : FRowP w B P vv rows) (hn : rows.length = n) (hn9 : n ≤ 100000) (hB : B ≤ w.heap.size)
    (hlv : ∃ a c, lv = .slice a f.2.list.length c) (hfv : ∃ a c, fv = .slice a f.2.fields.length c)
    (hv : Box w vb 30 (fcells f lv fv).toArray) (hat : f.2.At w (fun x => P x ∧ vv.ownBlock ≠ some x) lv fv) :
    Calls Try.prog 40 #[vv, .int .i64 n, .slice (some ⟨vb, 0, none⟩) 1 1] w (InsP w B P vv (insF rows n f)) := by
  obtain ⟨a, c, rfl, hc1, hc2⟩ := hrow.form
  rw [hn] at hrow hat hc1 ⊢
  have hrow0 := hrow
  obtain ⟨i, hi, hz, hi1, hi2⟩ := info_parts infoF
  obtain ⟨old, hown, hold⟩ := hrow
  have hcl := hown.1
  have hnews : ∀ j u, (fcells f lv fv)[j]? = some u → w.cell? ((⟨vb, 0, none⟩ : Addr).add j) = some u := by
    intro j u hj
    have e : ((⟨vb, 0, none⟩ : Addr).add j) = ⟨vb, j, none⟩ := by unfold Addr.add; by_cases h0 : j = 0 <;> simp [h0]
    rw [e, hv.cell]
    simpa using hj
  obtain ⟨al, cl, rfl⟩ := hlv
  obtain ⟨af, cf, rfl⟩ := hfv
  rw [hn] at hown
  obtain ⟨v', w', hr, ho', hu⟩ := run_app (P := Try.prog) w B FLDS FLDS 30 i _ 7 104 Try.underlying22 hi hz hi1 hi2 rfl (by decide) _ n old hown ⟨vb, 0, none⟩ 1 1 (fcells f _ _) rfl hnews (by intro u hu; simp [fcells, V.cells] at hu; rcases hu with rfl | rfl | rfl | rfl | rfl | rfl | rfl <;> rfl) (by unfold maxLen; omega) (by omega) hB
  have hgr := hu.1
  have hne : ∀ b, b < w.heap.size → (Value.slice a n c).ownBlock ≠ some b → v'.ownBlock ≠ some b := fun b hb hnb e => by
    rcases hu.2 with e2 | e2
    · rw [e2] at e; exact hnb e
    · have := e2 b e; omega
  have hins : insF rows n f = rows ++ [f] := by unfold insF; rw [← hn, List.take_length, List.drop_length]
  have hfin : FRowP w' B P v' (insF rows n f) := by
    rw [hins]
    refine ⟨old ++ fcells f _ _, by rw [List.length_append, hn]; exact ho', fun j hj => ?_⟩
    by_cases hjl : j < rows.length
    · obtain ⟨l1, f1, g1, g2⟩ := hold j hjl
      refine ⟨l1, f1, fun q u hq => ?_, ?_⟩
      · rw [List.getElem_append_left hjl] at hq
        have h1 := g1 q u hq
        rw [List.getElem?_append_left (List.getElem?_eq_some_iff.1 h1).1]
        exact h1
      · rw [List.getElem_append_left hjl]
        exact V.At.move (fun b hS hlt => ⟨⟨hS.1, hne b hlt hS.2⟩, hgr.block b hlt (fun e => hS.2 e.symm)⟩) hgr.size _ (Nat.le_refl _) g2
    · obtain rfl : j = rows.length := by simp at hj; omega
      refine ⟨.slice al f.2.list.length cl, .slice af f.2.fields.length cf, fun q u hq => ?_, ?_⟩
      · rw [List.getElem_append_right (Nat.le_refl _)] at hq
        rw [List.getElem?_append_right (by rw [hcl]; omega), hcl]
        simp only [Nat.sub_self, List.getElem_cons_zero] at hq
        rw [show rows.length * 7 + q - rows.length * 7 = q by omega]
        exact hq
      · rw [List.getElem_append_right (Nat.le_refl _)]
        simp only [Nat.sub_self, List.getElem_cons_zero]
        exact V.At.move (fun b hS hlt => ⟨⟨hS.1, hne b hlt hS.2⟩, hgr.block b hlt (fun e => hS.2 e.symm)⟩) hgr.size _ (Nat.le_refl _) hat
  have HF : Hid (InsP w B P (.slice a n c) (insF rows n f) (.returned v') w') := Lib.hid ⟨v', rfl, hfin, hu⟩
  obtain ⟨va, vc, rfl, _, _⟩ := hfin.form
  have h48 : (n : Int) ≤ (c : Int) := by omega
  have hc63 : (c : Int) ≤ 9223372036854775807 := by unfold maxLen at hc2; omega
  have h01 : ¬ ((1 : Int) = 0) := by omega
  clear hfin hu hgr hne hins hold hown hrow0 hcl hat hnews ho' hv
  go_enter Try.func40, Try.ntmps40
  cases a with
  | none =>
    go_wp2_with (at_builtin; refine Lib.wpList_append_run _ rfl _ _ _ _ rfl _ _ rfl rfl _ _ hr ?_)
    go_ret
    exact HF.out
  | some ad =>
    obtain ⟨ab, ao, asp⟩ := ad
    go_wp2_with (at_builtin; refine Lib.wpList_append_run _ rfl _ _ _ _ rfl _ _ rfl rfl _ _ hr ?_)
    all_goals (go_ret; exact HF.out)

end Go.Proofs.Ytcocljgafhpdaaa
end

section
namespace Go.Proofs.Ytcocljgafhpdaaa
open Go.RowKit Go.Lib

set_option linter.unusedVariables false

theorem fcells_one {w : World} {S : Nat → Prop} {p : Fd} {lv fv : Value} (h : p.2.At w S lv fv) : ∀ u ∈ fcells p lv fv, u.oneCell' = true := by
  intro u hu
  obtain ⟨⟨pa, pc, rfl⟩, ⟨qa, qc, rfl⟩, _, _⟩ := h.is.len
  simp [fcells, V.cells] at hu
  rcases hu with rfl | rfl | rfl | rfl | rfl | rfl | rfl <;> rfl

/-- a row with a block, by its parts -/
theorem FRowP.parts {w : World} {B n c g : Nat} {P : Nat → Prop} {rows : List Fd} (hrow : FRowP w B P (.slice (some ⟨g, 0, none⟩) n c) rows) (hn : rows.length = n) :
    ∃ (cs : List Value) (cur : Array Value), cs.length = n * 7 ∧ Box w g 30 cur ∧ cur.size = c * 7 ∧ B ≤ g ∧ n ≤ c ∧ c ≤ maxLen ∧ (∀ q, q < n * 7 → cur[q]? = cs[q]?) ∧ (∀ u ∈ cs, u.oneCell' = true) ∧
      ∀ i (h : i < rows.length), ∃ lv fv, (∀ j u, (fcells (rows[i]) lv fv)[j]? = some u → cs[i * 7 + j]? = some u) ∧ (rows[i]).2.At w (fun x => P x ∧ x ≠ g) lv fv := by
  obtain ⟨cs, hown, hold⟩ := hrow
  rw [hn] at hown
  have hcl : cs.length = n * 7 := hown.1
  have hold' : ∀ i (h : i < rows.length), ∃ lv fv, (∀ j u, (fcells (rows[i]) lv fv)[j]? = some u → cs[i * 7 + j]? = some u) ∧ (rows[i]).2.At w (fun x => P x ∧ x ≠ g) lv fv := fun i h => by
    obtain ⟨lv, fv, g1, g2⟩ := hold i h
    exact ⟨lv, fv, g1, g2.wider fun q hq => ⟨hq.1, fun e => hq.2 (by rw [e]; rfl)⟩⟩
  have honc : ∀ u ∈ cs, u.oneCell' = true := by
    intro u hu
    obtain ⟨q, hq, rfl⟩ := List.getElem_of_mem hu
    have hq7 := hq
    rw [hcl] at hq7
    have hlt : q / 7 < rows.length := by omega
    obtain ⟨a, b, g1, g2⟩ := hold _ hlt
    have h7 : q % 7 < (fcells (rows[q / 7]) a b).length := by show q % 7 < 7; omega
    have h9 := g1 (q % 7) _ (List.getElem?_eq_getElem h7)
    rw [show q / 7 * 7 + q % 7 = q by omega, List.getElem?_eq_getElem hq] at h9
    rw [Option.some.inj h9]
    exact fcells_one g2 _ (List.getElem_mem h7)
  rcases hown.2 with ⟨h, _⟩ | ⟨g', cap, cur, e1, e2, e3, e4, e5, e6, e7⟩
  · injection h with h; cases h
  · injection e1 with e1 _ e8
    injection e1 with e1
    injection e1 with e1
    subst e1
    subst e8
    exact ⟨cs, cur, hcl, e3, e6, e2, e4, e5, fun q hq => by rw [← e7, List.getElem?_take, if_pos hq, Array.getElem?_toList], honc, hold'⟩

set_option maxHeartbeats 4000000 in
set_option maxRecDepth 100000 in
/-- there is room -/
theorem ins_shift {w : World} {B n i c g vb : Nat} {P : Nat → Prop} {rows : List Fd} {f : Fd} {lv fv : Value} (hrow : FRowP w B P (.slice (some ⟨g, 0, none⟩) n c) rows) (hn : rows.length = n) (hn9 : n ≤ 100000) (hi : i < n) (hroom : n + 1 ≤ c) (hvb : vb ≠ g)
    (hv : Box w vb 30 (fcells f lv fv).toArray) (hat : f.2.At w (fun x => P x ∧ x ≠ g) lv fv) :
    Calls Try.prog 40 #[.slice (some ⟨g, 0, none⟩) n c, .int .i64 i, .slice (some ⟨vb, 0, none⟩) 1 1] w (InsP w B P (.slice (some ⟨g, 0, none⟩) n c) (insF rows i f)) := by
  obtain ⟨ti, hti, hz, hi1, hi2⟩ := info_parts infoF
  have hsz : (Try.prog.info? 30).map (·.size) = some 7 := by rw [hti]; simp [hi1]
  obtain ⟨cs, cur, hcl, hbox, hcz, hgB, _, hcm, hcq, honc, hold⟩ := hrow.parts hn
  have hc63 : c ≤ 9223372036854775807 := by unfold maxLen at hcm; omega
  have hone := fcells_one hat
  obtain ⟨fc, hfc⟩ : ∃ fc, fc = fcells f lv fv := ⟨_, rfl⟩
  have hfl : fc.length = 7 := by rw [hfc]; rfl
  rw [← hfc] at hv hone
  obtain ⟨c1, hc1⟩ : ∃ c1, c1 = cs.drop (i * 7) := ⟨_, rfl⟩
  have hc1l : c1.length = (n - i) * 7 := by rw [hc1, List.length_drop, hcl]; omega
  have hov : ∀ lb cb, (callFunc 58 #[.slice (some ⟨vb, 0, none⟩) 1 1, .slice (some ⟨g, (i + 1) * 7, none⟩) lb cb]).run Try.prog w = .ok (.value (.bool false)) w := fun lb cb => by
    rw [run_callFunc_extern Try.func58 (by kernel_rfl) (by kernel_rfl) (by kernel_rfl) (e := Extern.SlicesOverlaps.overlaps #[22, 22] #[4]) (by kernel_rfl),
      Lib.run_overlaps_apart w 22 4 30 Try.underlying22 7 (fun w => by simp [Go.sizeOf, typeInfo, hti, hi1]) ⟨vb, 0, none⟩ ⟨g, (i + 1) * 7, none⟩ 1 1 lb cb hvb 30 30 7 (c * 7) (by unfold Box at hv; simp [World.shape?, hv, hfl]) (by unfold Box at hbox; simp [World.shape?, hbox, hcz]) (by omega) (hv.free 0) (hv.free 7)]
    rfl
  have hcell : ∀ q, q < c * 7 → (w.cell? ⟨g, q, none⟩).isSome = true := fun q hq => by rw [hbox.cell, Array.getElem?_eq_getElem (by omega)]; rfl
  have hcp1 : ∀ ty dc sc, (Builtin.copy_ #[FLDS, FLDS] ty #[.slice (some ⟨g, (i + 1) * 7, none⟩) (n - i) dc, .slice (some ⟨g, i * 7, none⟩) (n + 1 - i) sc]).run Try.prog w.drew = .ok (goInt ((n - i : Nat) : Int)) (w.drew.setCells g ((i + 1) * 7) c1) := fun ty dc sc =>
    run_copy_cellsK w.drew _ _ ty 30 7 g ((i + 1) * 7) (n - i) dc ⟨g, i * 7, none⟩ (n + 1 - i) sc (n - i) c1 Try.underlying22 hsz (by simp only [Nat.min_def]; split <;> omega) hc1l
      (fun j v hj => by
        have e : ((⟨g, i * 7, none⟩ : Addr).add j) = ⟨g, i * 7 + j, none⟩ := by unfold Addr.add; by_cases h0 : j = 0 <;> simp [h0]
        rw [e]
        show w.cell? ⟨g, i * 7 + j, none⟩ = some v
        rw [hc1, List.getElem?_drop] at hj
        rw [hbox.cell, hcq _ (by have := (List.getElem?_eq_some_iff.1 hj).1; omega)]
        exact hj)
      (fun j hj => hcell _ (by omega)) (fun j hj => hbox.free _) (fun u hu => honc u (by rw [hc1] at hu; exact List.mem_of_mem_drop hu))
  obtain ⟨W1, hW1⟩ : ∃ W1, W1 = w.drew.setCells g ((i + 1) * 7) c1 := ⟨_, rfl⟩
  have hboxD : Box w.drew g 30 cur := hbox
  have hvD : Box w.drew vb 30 fc.toArray := hv
  have hb1 : Box W1 g 30 (aset cur ((i + 1) * 7) c1) := by rw [hW1, setCells_sets]; exact hboxD.sets c1 _
  have hv1 : Box W1 vb 30 fc.toArray := by rw [hW1, setCells_sets]; exact (sets_far c1 w.drew _ vb hvb).trans hvD
  have hcp2 : ∀ (W : World), (∀ x, W.cell? x = W1.cell? x) → (∀ x, W.frozen? x = W1.frozen? x) → ∀ ty dc, (Builtin.copy_ #[FLDS, FLDS] ty #[.slice (some ⟨g, i * 7, none⟩) (n + 1 - i) dc, .slice (some ⟨vb, 0, none⟩) 1 1]).run Try.prog W = .ok (goInt ((1 : Nat) : Int)) (W.setCells g (i * 7) fc) := fun W hWc hWf ty dc =>
    run_copy_cellsK W _ _ ty 30 7 g (i * 7) (n + 1 - i) dc ⟨vb, 0, none⟩ 1 1 1 fc Try.underlying22 hsz (by simp only [Nat.min_def]; split <;> omega) (by omega)
      (fun j v hj => by
        have e : ((⟨vb, 0, none⟩ : Addr).add j) = ⟨vb, j, none⟩ := by unfold Addr.add; by_cases h0 : j = 0 <;> simp [h0]
        rw [e, hWc, hv1.cell]
        simpa using hj)
      (fun j hj => by rw [hWc, hb1.cell, Array.getElem?_eq_getElem (by rw [aset_size]; omega)]; rfl) (fun j hj => by rw [hWf]; exact hb1.free _) hone
  have hfin : Hid (∀ W : World, W.heap = W1.heap → W.os = w.os → W.tape = w.tape → W.output = w.output → InsP w B P (.slice (some ⟨g, 0, none⟩) n c) (insF rows i f) (.returned (.slice (some ⟨g, 0, none⟩) (n + 1) c)) (W.setCells g (i * 7) fc)) := Lib.hid fun W hh ho ht hp => by
    rw [setCells_sets]
    have hbW : Box W g 30 (aset cur ((i + 1) * 7) c1) := by unfold Box; rw [hh]; exact hb1
    have hb2 := hbW.sets fc (i * 7)
    have hfar : ∀ q, q ≠ g → (sets W g (i * 7) fc).heap[q]? = w.heap[q]? := fun q hq => by
      rw [sets_far _ _ _ _ hq, hh, hW1, setCells_sets, sets_far _ _ _ _ hq]; rfl
    have hsize : (sets W g (i * 7) fc).heap.size = w.heap.size := by rw [sets_size, hh, hW1, setCells_sets, sets_size]; rfl
    have hbel := Below.sets fc (i * 7) (Below.refl 0 W) (g := g) (Nat.zero_le _)
    refine ⟨_, rfl, ?_, ⟨hbel.os.trans ho, hbel.tape.trans ht, hbel.output.trans hp, by rw [hsize]; exact Nat.le_refl _, fun q _ hne => hfar q fun e => hne (by rw [e]; rfl)⟩, .inl rfl⟩
    refine FRowP.inserted (lv := lv) (fv := fv) hn (by omega) hcl hb2 (by rw [aset_size, aset_size, hcz]) hroom hcm hgB ?_ ?_ ?_ (fun k hk => ?_) (V.At.move (fun x hS _ => ⟨hS, hfar x hS.2⟩) (by rw [hsize]; exact Nat.le_refl _) _ (Nat.le_refl _) hat)
    · intro q hq
      rw [aset_far _ _ _ _ (by omega), aset_far _ _ _ _ (by omega)]
      exact hcq q (by omega)
    · intro q hq
      rw [← hfc, List.getElem?_eq_getElem (by omega)]
      exact aset_get fc _ (i * 7) (by rw [aset_size]; omega) q _ (List.getElem?_eq_getElem (by omega))
    · intro q hq
      rw [aset_far _ _ _ _ (by omega)]
      have h9 : q < c1.length := by omega
      have := aset_get c1 cur ((i + 1) * 7) (by omega) q _ (List.getElem?_eq_getElem h9)
      rw [this, ← List.getElem?_eq_getElem h9, hc1, List.getElem?_drop]
    · obtain ⟨a, b, g1, g2⟩ := hold k hk
      exact ⟨a, b, g1, V.At.move (fun x hS _ => ⟨hS, hfar x hS.2⟩) (by rw [hsize]; exact Nat.le_refl _) _ (Nat.le_refl _) g2⟩
  have hww : Hid (W1.os = w.os ∧ W1.tape = w.tape ∧ W1.output = w.output) := Lib.hid (by
    have hbel := Below.sets c1 ((i + 1) * 7) (Below.refl 0 w.drew) (g := g) (Nat.zero_le _)
    rw [hW1, setCells_sets]
    exact ⟨hbel.os, hbel.tape, hbel.output⟩)
  have mixed : Try.prog.follows Departure.mixedOrders = true := by kernel_rfl
  have hw1 : IntKind.i64.wrap ((i : Int) + (1 : Int)) = (i : Int) + (1 : Int) := by rw [IntKind.wrap_i64]; omega
  have hz1 : ¬ ((1 : Int) = 0) := by omega
  have hz2 : ¬ ((i : Int) = (n : Int)) := by omega
  have hb1' : (0 : Int) ≤ (i : Int) + (1 : Int) := by omega
  have hin : i ≤ n := by omega
  have htn : ((i : Int) + (1 : Int)).toNat = i + 1 := by omega
  have hb2' : ¬ (c = i + 1) := by omega
  have hb3 : (i : Int) ≤ (n : Int) + (1 : Int) := by omega
  have hb4 : ¬ (c = i) := by omega
  rw [← hW1] at hcp1
  clear hold hcq honc hone hcell hboxD hvD hb1 hv1 hc1l hbox hcz hW1 hc1 hfc hv hat hrow hfl hcl hgB hcm hn hti hz hi1 hi2 hsz
  go_enter Try.func40, Try.ntmps40
  go_wp2_with (simp only [hov])
  go_region_law_o (refine Go.Proofs.step_copy_runI rfl _ _ FLDS FLDS rfl _ _ (by simp [Act.eval, Act.put]) (by simp [Act.eval, Act.put]) (hcp1 _ _ _) ?_)
  have HD0 := Lib.hid (hfin.out W1 rfl hww.out.1 hww.out.2.1 hww.out.2.2)
  clear hfin hww hcp1 hov
  go_wp2_with (at_builtin; refine Go.Proofs.wpList_copy_runI _ rfl _ _ FLDS FLDS rfl _ _ rfl rfl (hcp2 _ (fun _ => rfl) (fun _ => rfl) _ _) ?_)
  go_ret
  exact HD0.out

set_option maxHeartbeats 4000000 in
set_option maxRecDepth 100000 in
/-- there is no room -/
theorem ins_grow {w : World} {B n i c g vb : Nat} {P : Nat → Prop} {rows : List Fd} {f : Fd} {lv fv : Value} (hrow : FRowP w B P (.slice (some ⟨g, 0, none⟩) n c) rows) (hn : rows.length = n) (hn9 : n ≤ 100000) (hi : i < n) (hroom : c < n + 1) (hB : B ≤ w.heap.size)
    (hv : Box w vb 30 (fcells f lv fv).toArray) (hat : f.2.At w (fun x => P x) lv fv) :
    Calls Try.prog 40 #[.slice (some ⟨g, 0, none⟩) n c, .int .i64 i, .slice (some ⟨vb, 0, none⟩) 1 1] w (InsP w B P (.slice (some ⟨g, 0, none⟩) n c) (insF rows i f)) := by
  obtain ⟨ti, hti, hz, hi1, hi2⟩ := info_parts infoF
  have hsz : (Try.prog.info? 30).map (·.size) = some 7 := by rw [hti]; simp [hi1]
  obtain ⟨cs, cur, hcl, hbox, hcz, hgB, hnc, hcm, hcq, honc, hold⟩ := hrow.parts hn
  have hc63 : c ≤ 9223372036854775807 := by unfold maxLen at hcm; omega
  have hone := fcells_one hat
  obtain ⟨fc, hfc⟩ : ∃ fc, fc = fcells f lv fv := ⟨_, rfl⟩
  have hfl : fc.length = 7 := by rw [hfc]; rfl
  rw [← hfc] at hv hone
  obtain ⟨c1, hc1⟩ : ∃ c1, c1 = cs.drop (i * 7) := ⟨_, rfl⟩
  have hc1l : c1.length = (n - i) * 7 := by rw [hc1, List.length_drop, hcl]; omega
  have hgw := hbox.lt
  have hvw := hv.lt
  obtain ⟨zz, hzz⟩ : ∃ zz : Value, zz = .agg #[.string ⟨#[]⟩, .int .i64 0, .bool false, .int .i64 0, .string ⟨#[]⟩, .slice none 0 0, .slice none 0 0] := ⟨_, rfl⟩
  rw [← hzz] at hz
  have hzc : zz.cells.size = 7 := by rw [hzz]; rfl
  have hold0 : (Builtin.firstCells ti.size i (.slice (some ⟨g, 0, none⟩) i c)).run Try.prog w.drew = .ok (cs.take (i * 7)).toArray w.drew := by
    rw [hi1]
    exact run_firstCells_some w.drew 7 i ⟨g, 0, none⟩ i c (cs.take (i * 7)) (by rw [List.length_take, hcl]; omega) (fun j v hj => by
      have e : ((⟨g, 0, none⟩ : Addr).add j) = ⟨g, j, none⟩ := by unfold Addr.add; by_cases h0 : j = 0 <;> simp [h0]
      rw [e]
      show w.cell? ⟨g, j, none⟩ = some v
      rw [List.getElem?_take] at hj
      split at hj
      · rw [hbox.cell, hcq _ (by omega)]; exact hj
      · cases hj)
  have hkk : (n : Int) + (1 : Int) - (i : Int) = ((n + 1 - i : Nat) : Int) := by omega
  have hik : i + (n + 1 - i) = n + 1 := by omega
  obtain ⟨G, hG⟩ : ∃ G, G = grownCap w (n + 1) c 30 := ⟨_, rfl⟩
  have hGn : n + 1 ≤ G := by rw [hG]; exact grownCap_ge w _ _ _
  have hGm : G ≤ maxLen := by rw [hG]; exact grownCap_le_maxLen w (n + 1) c 30 (by unfold maxLen; omega)
  obtain ⟨ROW, hROW⟩ : ∃ ROW : Array Value, ROW = (cs.take (i * 7)).toArray ++ Builtin.zeroCells zz.cells (n + 1 - i) ++ Builtin.zeroCells zz.cells (G - (n + 1)) := ⟨_, rfl⟩
  have hrz : ∀ ty, (Builtin.append_ #[FLDS, 3] ty #[.slice (some ⟨g, 0, none⟩) i c, .int .i64 ((n : Int) + (1 : Int) - (i : Int))]).run Try.prog w =
      .ok (.slice (some ⟨w.heap.size, 0, none⟩) (n + 1) G) (w.drew.alloc (.cells ROW 30)) := fun ty => by
    have h := Lib.run_append_grow_zeros (P := Try.prog) w FLDS 3 ty 30 ti zz .i64 .i64 Try.underlying22 Try.underlying3 hti hz (some ⟨g, 0, none⟩) i c (cs.take (i * 7)) hold0 (n + 1 - i) (by omega) (by omega) (by omega) (by omega) (by rw [hi2]; omega) (by rw [hi2, hik]; exact growslice_fits hroom (by omega))
    rw [hik] at h
    rw [hkk, hROW, hG]
    exact h
  have hRsz : ROW.size = G * 7 := by
    rw [hROW]
    simp only [Array.size_append, List.size_toArray, List.length_take, hcl]
    rw [size_zeroCells, size_zeroCells, hzc]
    omega
  have hR1 : ∀ q, q < i * 7 → ROW[q]? = cs[q]? := fun q hq => by
    rw [hROW, Array.append_assoc, Array.getElem?_append_left (by simp [hcl]; omega), List.getElem?_toArray, List.getElem?_take, if_pos hq]
  obtain ⟨W1, hW1⟩ : ∃ W1, W1 = w.drew.alloc (.cells ROW 30) := ⟨_, rfl⟩
  rw [← hW1] at hrz
  have hN : Box W1 w.heap.size 30 ROW := by rw [hW1]; exact Box.new w.drew _ _
  have hfar1 : ∀ q, q < w.heap.size → W1.heap[q]? = w.heap[q]? := fun q hq => by rw [hW1]; exact Below.heap_alloc w.drew _ q hq
  have hsz1 : W1.heap.size = w.heap.size + 1 := by
    rw [hW1]
    generalize hd : w.drew = wd
    have : wd.heap.size = w.heap.size := by rw [← hd]; rfl
    rw [← this]
    simp
  have hv1 : Box W1 vb 30 fc.toArray := (hfar1 vb hvw).trans hv
  have hcpA : ∀ (W : World), (∀ x, W.cell? x = W1.cell? x) → (∀ x, W.frozen? x = W1.frozen? x) → ∀ ty dc, (Builtin.copy_ #[FLDS, FLDS] ty #[.slice (some ⟨w.heap.size, i * 7, none⟩) (n + 1 - i) dc, .slice (some ⟨vb, 0, none⟩) 1 1]).run Try.prog W = .ok (goInt ((1 : Nat) : Int)) (W.setCells w.heap.size (i * 7) fc) := fun W hWc hWf ty dc =>
    run_copy_cellsK W _ _ ty 30 7 w.heap.size (i * 7) (n + 1 - i) dc ⟨vb, 0, none⟩ 1 1 1 fc Try.underlying22 hsz (by simp only [Nat.min_def]; split <;> omega) (by omega)
      (fun j v hj => by
        have e : ((⟨vb, 0, none⟩ : Addr).add j) = ⟨vb, j, none⟩ := by unfold Addr.add; by_cases h0 : j = 0 <;> simp [h0]
        rw [e, hWc, hv1.cell]
        simpa using hj)
      (fun j hj => by rw [hWc, hN.cell, Array.getElem?_eq_getElem (by omega)]; rfl) (fun j hj => by rw [hWf]; exact hN.free _) hone
  obtain ⟨W2, hW2⟩ : ∃ W2, W2 = W1.setCells w.heap.size (i * 7) fc := ⟨_, rfl⟩
  have hN2 : Box W2 w.heap.size 30 (aset ROW (i * 7) fc) := by rw [hW2, setCells_sets]; exact hN.sets fc _
  have hg2 : Box W2 g 30 cur := by rw [hW2, setCells_sets]; exact (sets_far fc W1 _ g (by omega)).trans ((hfar1 g hgw).trans hbox)
  have hcpB : ∀ (W : World), (∀ x, W.cell? x = W2.cell? x) → (∀ x, W.frozen? x = W2.frozen? x) → ∀ ty dc sc, (Builtin.copy_ #[FLDS, FLDS] ty #[.slice (some ⟨w.heap.size, (i + 1) * 7, none⟩) (n - i) dc, .slice (some ⟨g, i * 7, none⟩) (n - i) sc]).run Try.prog W = .ok (goInt ((n - i : Nat) : Int)) (W.setCells w.heap.size ((i + 1) * 7) c1) := fun W hWc hWf ty dc sc =>
    run_copy_cellsK W _ _ ty 30 7 w.heap.size ((i + 1) * 7) (n - i) dc ⟨g, i * 7, none⟩ (n - i) sc (n - i) c1 Try.underlying22 hsz (by simp only [Nat.min_def]; split <;> omega) hc1l
      (fun j v hj => by
        have e : ((⟨g, i * 7, none⟩ : Addr).add j) = ⟨g, i * 7 + j, none⟩ := by unfold Addr.add; by_cases h0 : j = 0 <;> simp [h0]
        rw [e, hWc, hg2.cell]
        rw [hc1, List.getElem?_drop] at hj
        rw [hcq _ (by have := (List.getElem?_eq_some_iff.1 hj).1; omega)]
        exact hj)
      (fun j hj => by rw [hWc, hN2.cell, Array.getElem?_eq_getElem (by rw [aset_size]; omega)]; rfl) (fun j hj => by rw [hWf]; exact hN2.free _) (fun u hu => honc u (by rw [hc1] at hu; exact List.mem_of_mem_drop hu))
  have hfin : Hid (∀ W : World, W.heap = W2.heap → W.os = w.os → W.tape = w.tape → W.output = w.output → InsP w B P (.slice (some ⟨g, 0, none⟩) n c) (insF rows i f) (.returned (.slice (some ⟨w.heap.size, 0, none⟩) (n + 1) G)) (W.setCells w.heap.size ((i + 1) * 7) c1)) := Lib.hid fun W hh ho ht hp => by
    rw [setCells_sets]
    have hbW : Box W w.heap.size 30 (aset ROW (i * 7) fc) := by unfold Box; rw [hh]; exact hN2
    have hb2 := hbW.sets c1 ((i + 1) * 7)
    have hfar : ∀ q, q < w.heap.size → (sets W w.heap.size ((i + 1) * 7) c1).heap[q]? = w.heap[q]? := fun q hq => by
      rw [sets_far _ _ _ _ (by omega), hh, hW2, setCells_sets, sets_far _ _ _ _ (by omega)]; exact hfar1 q hq
    have hsize : (sets W w.heap.size ((i + 1) * 7) c1).heap.size = w.heap.size + 1 := by rw [sets_size, hh, hW2, setCells_sets, sets_size]; exact hsz1
    have hbel := Below.sets c1 ((i + 1) * 7) (Below.refl 0 W) (g := w.heap.size) (Nat.zero_le _)
    refine ⟨_, rfl, ?_, ⟨hbel.os.trans ho, hbel.tape.trans ht, hbel.output.trans hp, by rw [hsize]; omega, fun q hq _ => hfar q hq⟩, .inr fun k hk => by
      have : w.heap.size = k := by simpa [Value.ownBlock] using hk
      omega⟩
    refine FRowP.inserted (lv := lv) (fv := fv) hn (by omega) hcl hb2 (by rw [aset_size, aset_size, hRsz]) hGn hGm hB ?_ ?_ ?_ (fun k hk => ?_) (V.At.move (fun x hS hx => ⟨⟨hS, by omega⟩, hfar x hx⟩) (by rw [hsize]; omega) _ (Nat.le_refl _) hat)
    · intro q hq
      rw [aset_far _ _ _ _ (by omega), aset_far _ _ _ _ (by omega)]
      exact hR1 q hq
    · intro q hq
      rw [aset_far _ _ _ _ (by omega), ← hfc, List.getElem?_eq_getElem (by omega)]
      exact aset_get fc _ (i * 7) (by omega) q _ (List.getElem?_eq_getElem (by omega))
    · intro q hq
      have h9 : q < c1.length := by omega
      have := aset_get c1 (aset ROW (i * 7) fc) ((i + 1) * 7) (by rw [aset_size]; omega) q _ (List.getElem?_eq_getElem h9)
      rw [this, ← List.getElem?_eq_getElem h9, hc1, List.getElem?_drop]
    · obtain ⟨a, b, g1, g2⟩ := hold k hk
      exact ⟨a, b, g1, V.At.move (fun x hS hx => ⟨⟨hS.1, by omega⟩, hfar x hx⟩) (by rw [hsize]; omega) _ (Nat.le_refl _) g2⟩
  have hww : Hid (W2.os = w.os ∧ W2.tape = w.tape ∧ W2.output = w.output) := Lib.hid (by
    have hbel := Below.sets fc (i * 7) (Below.refl 0 W1) (g := w.heap.size) (Nat.zero_le _)
    rw [hW2, setCells_sets]
    rw [hW1] at hbel ⊢
    exact ⟨hbel.os, hbel.tape, hbel.output⟩)
  have mixed : Try.prog.follows Departure.mixedOrders = true := by kernel_rfl
  have hw1 : IntKind.i64.wrap ((i : Int) + (1 : Int)) = (i : Int) + (1 : Int) := by rw [IntKind.wrap_i64]; omega
  have hz1 : ¬ ((1 : Int) = 0) := by omega
  have hz2 : ¬ ((i : Int) = (n : Int)) := by omega
  have hz3 : (c : Int) < (n : Int) + (1 : Int) := by omega
  have hb1' : (0 : Int) ≤ (i : Int) + (1 : Int) := by omega
  have hin : i ≤ n := by omega
  have htn : ((i : Int) + (1 : Int)).toNat = i + 1 := by omega
  have hb3 : (i : Int) ≤ (n : Int) := by omega
  have hG63 : G ≤ 9223372036854775807 := by unfold maxLen at hGm; omega
  have hGi : ¬ (G = i) := by omega
  have hGim : ¬ (G = i + 1) := by omega
  have hci : ¬ (c = i) := by omega
  have hE1 : ∀ x, ((w.alloc (.cells ROW 30)).drew).cell? x = W1.cell? x := by rw [hW1]; exact fun x => rfl
  have hE2 : ∀ x, ((w.alloc (.cells ROW 30)).drew).frozen? x = W1.frozen? x := by rw [hW1]; exact fun x => rfl
  have hF1 : ∀ x, (((w.alloc (.cells ROW 30)).drew.setCells w.heap.size (i * 7) fc).drew).cell? x = W2.cell? x := by rw [hW2, hW1]; exact fun x => rfl
  have hF2 : ∀ x, (((w.alloc (.cells ROW 30)).drew.setCells w.heap.size (i * 7) fc).drew).frozen? x = W2.frozen? x := by rw [hW2, hW1]; exact fun x => rfl
  have hEW : W2.heap = (((w.alloc (.cells ROW 30)).drew.setCells w.heap.size (i * 7) fc).drew).heap := by rw [hW2, hW1]; rfl
  have HD1 : Hid (InsP w B P (.slice (some ⟨g, 0, none⟩) n c) (insF rows i f) (.returned (.slice (some ⟨w.heap.size, 0, none⟩) (n + 1) G)) ((((w.alloc (.cells ROW 30)).drew.setCells w.heap.size (i * 7) fc).drew).setCells w.heap.size ((i + 1) * 7) c1)) := Lib.hid (hfin.out _ hEW.symm (by rw [← hww.out.1, hW2, hW1]; rfl) (by rw [← hww.out.2.1, hW2, hW1]; rfl) (by rw [← hww.out.2.2, hW2, hW1]; rfl))
  subst hW2
  subst hW1
  clear hfin hww hEW hold hcq honc hone hv1 hc1l hbox hcz hc1 hfc hv hat hrow hfl hcl hgB hcm hn hti hz hi1 hi2 hsz hN hN2 hg2 hfar1 hsz1 hR1 hRsz hROW hG hzz hzc hold0 hkk hik hGm
  go_enter Try.func40, Try.ntmps40
  go_wp2_with (first
    | (at_builtin; refine Lib.wpList_append_run _ rfl _ _ _ _ rfl _ _ rfl rfl _ _ (hrz _) ?_)
    | (at_builtin; refine Go.Proofs.wpList_copy_runI _ rfl _ _ FLDS FLDS rfl _ _ rfl rfl (hcpA _ hE1 hE2 _ _) ?_)
    | (at_builtin; refine Go.Proofs.wpList_copy_runI _ rfl _ _ FLDS FLDS rfl _ _ rfl rfl (hcpB _ (fun _ => rfl) (fun _ => rfl) _ _ _) ?_))
  go_region_law_o (refine Go.Proofs.step_copy_runI rfl _ _ FLDS FLDS rfl (.slice (some ⟨w.heap.size, (i + 1) * 7, none⟩) (n - i) (G - (i + 1))) (.slice (some ⟨g, i * 7, none⟩) (n - i) (c - i)) (by simp [Act.eval, Act.put]) (by simp [Act.eval, Act.put]) (hcpB _ hF1 hF2 _ _ _) ?_)
  clear hcpA hcpB hrz hE1 hE2 hF1 hF2
  go_wp2
  go_ret
  exact HD1.out

/-- of whatever row -/
theorem ins_any {w : World} {B n i vb : Nat} {P : Nat → Prop} {rows : List Fd} {vv : Value} {f : Fd} {lv fv : Value} (hrow : FRowP w B P vv rows) (hn : rows.length = n) (hn9 : n ≤ 100000) (hi : i ≤ n) (hB : B ≤ w.heap.size) (hvb : vv.ownBlock ≠ some vb)
    (hv : Box w vb 30 (fcells f lv fv).toArray) (hat : f.2.At w (fun x => P x ∧ vv.ownBlock ≠ some x) lv fv) :
    Calls Try.prog 40 #[vv, .int .i64 i, .slice (some ⟨vb, 0, none⟩) 1 1] w (InsP w B P vv (insF rows i f)) := by
  have hl := hat.is.len
  by_cases he : i = n
  · subst he
    exact ins_end hrow hn hn9 hB hl.1 hl.2.1 hv hat
  · obtain ⟨a, c, rfl, hc1, hc2⟩ := hrow.form
    rw [hn] at hrow hat hvb hc1 ⊢
    have hg : ∃ g, a = some ⟨g, 0, none⟩ := by
      obtain ⟨cs, h1, _⟩ := hrow
      rcases h1.2 with ⟨h, h0⟩ | ⟨g, cap, cur, e1, _⟩
      · omega
      · injection e1 with e1 _ _
        exact ⟨g, e1⟩
    obtain ⟨g, rfl⟩ := hg
    have hat2 : f.2.At w (fun x => P x ∧ x ≠ g) lv fv := hat.wider fun q hq => ⟨hq.1, fun e => hq.2 (by rw [e]; rfl)⟩
    by_cases hr : n + 1 ≤ c
    · exact ins_shift hrow hn hn9 (by omega) hr (fun e => hvb (by rw [e]; rfl)) hv hat2
    · exact ins_grow hrow hn hn9 (by omega) (by omega) hB hv (hat2.wider fun q hq => hq.1)

end Go.Proofs.Ytcocljgafhpdaaa
end

section
namespace Go.Proofs.Ytcocljgafhpdaaa

theorem getF_none {l : List Fd} {n : ByteArray} (h : ∀ p ∈ l, p.1 ≠ n) : getF l n = none := by
  induction l with
  | nil => rfl
  | cons p l ih =>
    rw [getF, if_neg (h p (by simp))]
    exact ih fun q hq => h q (by simp [hq])

theorem getF_append (a b : List Fd) (n : ByteArray) : getF (a ++ b) n = (getF a n).or (getF b n) := by
  induction a with
  | nil => simp [getF]
  | cons p a ih =>
    rw [List.cons_append, getF, getF]
    by_cases h : p.1 = n
    · rw [if_pos h, if_pos h]; rfl
    · rw [if_neg h, if_neg h, ih]

theorem getF_off_self (l : List Fd) (n : ByteArray) : getF (offF l n) n = none := getF_none fun p hp e => by
  have := (List.mem_filter.1 hp).2
  simp [e] at this

theorem getF_off {n m : ByteArray} (h : m ≠ n) : ∀ l : List Fd, getF (offF l n) m = getF l m
  | [] => rfl
  | p :: l => by
    have ih := getF_off h l
    unfold offF at ih ⊢
    rw [List.filter_cons]
    by_cases e : p.1 = n
    · have e2 : ¬ p.1 = m := fun e3 => h (e3.symm.trans e)
      rw [if_neg (by simp [e]), ih, getF, if_neg e2]
    · rw [if_pos (by simp [e]), getF, getF, ih]

theorem getF_ins_self {rows : List Fd} {n : ByteArray} (hn : getF rows n = none) (i : Nat) (x : V) : getF (insF rows i (n, x)) n = some x := by
  have h : getF (rows.take i) n = none := by
    have h1 := getF_append (rows.take i) (rows.drop i) n
    rw [List.take_append_drop, hn] at h1
    cases h2 : getF (rows.take i) n with
    | none => rfl
    | some v => rw [h2] at h1; cases h1
  unfold insF
  rw [getF_append, h, getF, if_pos rfl]
  rfl

theorem getF_ins {rows : List Fd} {n m : ByteArray} (h : m ≠ n) (i : Nat) (x : V) : getF (insF rows i (n, x)) m = getF rows m := by
  unfold insF
  rw [getF_append, getF, if_neg fun e => h e.symm, ← getF_append, List.take_append_drop]

theorem getF_rise : ∀ (l : List FC), l.Pairwise riseFC → ∀ x ∈ l, getF (l.map FC.fd) x.nm = some x.v
  | [], _, _, hx => by cases hx
  | y :: l, h, x, hx => by
    have h1 := List.pairwise_cons.1 h
    rw [List.map_cons, getF]
    rcases List.mem_cons.1 hx with rfl | hx
    · exact if_pos rfl
    · have hne : ¬ (FC.fd y).1 = x.nm := fun e => by
        have := h1.1 x hx
        unfold riseFC at this
        rw [show y.nm = x.nm from e] at this
        exact List.lt_irrefl _ this
      rw [if_neg hne]
      exact getF_rise l h1.2 x hx

theorem getF_kept {d : Array FC} {x : FC} (h : x ∈ keptF d) : getF ((keptF d).map FC.fd) x.nm = some x.v := getF_rise _ (kept_rise d) x h
theorem getF_kept_not {d : Array FC} {n : ByteArray} (h : ∀ x ∈ keptF d, x.nm ≠ n) : getF ((keptF d).map FC.fd) n = none := getF_none fun p hp => by
  obtain ⟨x, hx, rfl⟩ := List.mem_map.1 hp
  exact h x hx

/-- Get of OfMap and the law's map: the same -/
theorem got_kept (d : Array FC) (n : ByteArray) : (∃ x ∈ keptF d, x.nm = n ∧ getF ((keptF d).map FC.fd) n = some x.v ∧ getS n.data.toList (lastMap d.toList) = some (vagg x)) ∨ (getF ((keptF d).map FC.fd) n = none ∧ getS n.data.toList (lastMap d.toList) = none) := by
  cases hx : (keptF d).find? (fun x => decide (x.nm = n)) with
  | some x =>
    have hm := List.mem_of_find?_eq_some hx
    have e : x.nm = n := by have := List.find?_some hx; simpa using this
    subst e
    exact .inl ⟨x, hm, rfl, getF_kept hm, kept_get hm⟩
  | none =>
    rw [List.find?_eq_none] at hx
    have h : ∀ x ∈ keptF d, x.nm ≠ n := fun x hm e => hx x hm (by simp [e])
    exact .inr ⟨getF_kept_not h, kept_not h⟩

end Go.Proofs.Ytcocljgafhpdaaa
end

section
namespace Go.Proofs.Ytcocljgafhpdaaa
open Go.RowKit

/-- a name's value; null where there is none -/
def getV (kf : List Fd) (n : ByteArray) : V := (getF kf n).getD V.null

theorem null_is (w : World) : V.null.Is w (.slice none 0 0) (.slice none 0 0) := V.at_iff.2 ⟨⟨none, 0, rfl, Nat.le_refl _, by unfold maxLen; omega, .inl rfl⟩, ⟨none, 0, rfl, Nat.le_refl _, by unfold maxLen; omega, .inl rfl⟩⟩

theorem get_u {W : World} {kf : List Fd} {ma : Option Addr} {n mc : Nat} (hfa : FAt W All kf (.slice ma n mc)) (hsm : ∀ p ∈ kf, p.2.sm) (hlen : kf.length ≤ 100000) (nm : ByteArray) :
    Calls Try.prog 14 #[.agg #[.int .i64 5, .bool false, .int .i64 0, .string ⟨#[]⟩, .slice none 0 0, .slice ma n mc], .string nm] W fun e w' =>
      ∃ lv fv, e = .returned (.tuple #[.agg #[.int .i64 (getV kf nm).kind, .bool (getV kf nm).yes, .int .i64 (getV kf nm).num, .string (getV kf nm).text, lv, fv], .bool (getF kf nm).isSome]) ∧ (getV kf nm).Is w' lv fv ∧ Below W.heap.size W w' := by
  refine (get_map false 0 ⟨#[]⟩ none 0 0 kf nm (.slice ma n mc) W hsm hlen hfa).mono ?_
  rintro e w' ⟨hb, h⟩
  rcases h with ⟨x, lv, fv, hg, rfl, hat⟩ | ⟨hg, rfl⟩
  · refine ⟨lv, fv, ?_, ?_, hb⟩
    · unfold getV; rw [hg]; rfl
    · unfold getV; rw [hg]; exact hat.is
  · refine ⟨.slice none 0 0, .slice none 0 0, ?_, ?_, hb⟩
    · unfold getV; rw [hg]; rfl
    · unfold getV; rw [hg]; exact null_is w'

/-- the look-up that tells whether the name is there -/
theorem look_u {w : World} {mb k : Nat} {d : Array FC} (hd : ∀ x ∈ d, x.v.Is w (.slice x.a x.v.list.length x.c) (.slice x.b x.v.fields.length x.d)) (nm : ByteArray) (hs : nm.size ≤ maxLen) :
    ∃ la lc fa fc, (∀ W', MapAt 9 W' mb k (lastMap d.toList) → (Instr.lookup 31 (.map (some mb)) (.string nm) true).run Try.prog W' =
      .ok (.tuple #[.agg #[.int .i64 (getV ((keptF d).map FC.fd) nm).kind, .bool (getV ((keptF d).map FC.fd) nm).yes, .int .i64 (getV ((keptF d).map FC.fd) nm).num, .string (getV ((keptF d).map FC.fd) nm).text, .slice la (getV ((keptF d).map FC.fd) nm).list.length lc, .slice fa (getV ((keptF d).map FC.fd) nm).fields.length fc], .bool (getF ((keptF d).map FC.fd) nm).isSome]) W') ∧
      (getV ((keptF d).map FC.fd) nm).Is w (.slice la (getV ((keptF d).map FC.fd) nm).list.length lc) (.slice fa (getV ((keptF d).map FC.fd) nm).fields.length fc) := by
  have hl : ∀ W', MapAt 9 W' mb k (lastMap d.toList) → _ := fun W' h => MapAt.look (e := 26) (t := 31) h Try.underlying9 Try.underlying31 (z := .agg #[.int .i64 0, .bool false, .int .i64 0, .string ⟨#[]⟩, .slice none 0 0, .slice none 0 0]) (by kernel_rfl) nm hs true
  rcases got_kept d nm with ⟨x, hx, rfl, hg, hgs⟩ | ⟨hg, hgs⟩
  · refine ⟨x.a, x.c, x.b, x.d, fun W' h => ?_, ?_⟩
    · rw [hl W' h, hgs]
      unfold getV
      rw [hg]
      rfl
    · unfold getV
      rw [hg]
      exact hd x (kept_mem hx)
  · refine ⟨none, 0, none, 0, fun W' h => ?_, ?_⟩
    · rw [hl W' h, hgs]
      unfold getV
      rw [hg]
      rfl
    · unfold getV
      rw [hg]
      exact null_is w

end Go.Proofs.Ytcocljgafhpdaaa
end

section
namespace Go.Proofs.Ytcocljgafhpdaaa
open Go.RowKit

def WithP (l : List Fd) (n : ByteArray) (x : V) (w : World) (e : Ending) (w' : World) : Prop :=
  Below w.heap.size w w' ∧ ∃ fv i, i ≤ (offF l n).length ∧ e = .returned (.agg #[.int .i64 5, .bool false, .int .i64 0, .string ⟨#[]⟩, .slice none 0 0, fv]) ∧ FRow w' w.heap.size fv (insF (offF l n) i (n, x))

def WS (w W : World) (mb : Nat) (x : V) (px : Option Addr) (pc : Nat) (py : Option Addr) (pd : Nat) (va : Option Addr) (n vc : Nat) (rows : List Fd) : Prop :=
  Box W (w.heap.size + 1) 26 #[.int .i64 x.kind, .bool x.yes, .int .i64 x.num, .string x.text, .slice px x.list.length pc, .slice py x.fields.length pd] ∧ Box W (w.heap.size + 1 + 1) 26 #[.int .i64 0, .bool false, .int .i64 0, .string ⟨#[]⟩, .slice none 0 0, .slice none 0 0] ∧ Box W mb 26 #[.int .i64 5, .bool false, .int .i64 0, .string ⟨#[]⟩, .slice none 0 0, .slice va n vc] ∧ FRowP W (w.heap.size + 3) (fun q => w.heap.size + 3 ≤ q ∧ q ≠ mb) (.slice va n vc) rows ∧ Below w.heap.size w W ∧ x.Is W (.slice px x.list.length pc) (.slice py x.fields.length pd) ∧ w.heap.size + 3 ≤ mb ∧ (∀ q, (Value.slice va n vc).ownBlock = some q → q ≠ mb)

theorem WS.below {w W W' : World} {mb : Nat} {x : V} {px : Option Addr} {pc : Nat} {py : Option Addr} {pd : Nat} {va : Option Addr} {n vc : Nat} {rows : List Fd} (h : WS w W mb x px pc py pd va n vc rows) (hb : Below W.heap.size W W') : WS w W' mb x px pc py pd va n vc rows := by
  obtain ⟨h1, h2, h3, h4, h5, h6, h7, h8⟩ := h
  exact ⟨(hb.block _ h1.lt).trans h1, (hb.block _ h2.lt).trans h2, (hb.block _ h3.lt).trans h3, h4.keep (fun b hP hlt => ⟨hP, hb.block b hlt⟩) (fun b ho => hb.block b (h4.own b ho).2) hb.size, h5.trans (hb.mono h5.size), h6.below hb, h7, h8⟩

/-- behind the insert, ahead of the store -/
def WFin (w : World) (mb n vc : Nat) (va : Option Addr) (vs : List Fd) (e : Ending) (w6 : World) : Prop :=
  ∃ (qa : Option Addr) (qc : Nat), e = .returned (.slice qa (n + 1) qc) ∧ Box w6 mb 26 #[.int .i64 5, .bool false, .int .i64 0, .string ⟨#[]⟩, .slice none 0 0, .slice va n vc] ∧ Box (w6.setCell ⟨mb, 5, none⟩ (.slice qa (n + 1) qc)) (w.heap.size + 1 + 1) 26 #[.int .i64 0, .bool false, .int .i64 0, .string ⟨#[]⟩, .slice none 0 0, .slice none 0 0] ∧ Box (w6.setCell ⟨mb, 5, none⟩ (.slice qa (n + 1) qc)) mb 26 #[.int .i64 5, .bool false, .int .i64 0, .string ⟨#[]⟩, .slice none 0 0, .slice qa (n + 1) qc] ∧ FRow (w6.setCell ⟨mb, 5, none⟩ (.slice qa (n + 1) qc)) (w.heap.size + 3) (.slice qa (n + 1) qc) vs ∧ Below w.heap.size w (w6.setCell ⟨mb, 5, none⟩ (.slice qa (n + 1) qc))

set_option maxHeartbeats 4000000 in
set_option maxRecDepth 100000 in
theorem with_map (y : Bool) (m : Int) (t : ByteArray) (ax : Option Addr) (lx cx : Nat) (l : List Fd) (nm : ByteArray) (lv : Value) (w : World) (hsm : ∀ x ∈ l, x.2.sm) (hlen : l.length ≤ 90000) (hl : FAt w All l lv) (x : V) (xl xf : Value) (hx : x.Is w xl xf) (hxs : x.sm) :
    Calls Try.prog 15 #[.agg #[.int .i64 5, .bool y, .int .i64 m, .string t, .slice ax lx cx, lv], .string nm, .agg #[.int .i64 x.kind, .bool x.yes, .int .i64 x.num, .string x.text, xl, xf]] w (WithP l nm x w) := by
  have hwo : ∀ W, Below w.heap.size w W → Calls Try.prog 16 #[.agg #[.int .i64 5, .bool y, .int .i64 m, .string t, .slice ax lx cx, lv], .string nm] W (WithoutP l nm W) := fun W hW => without_map y m t ax lx cx l nm lv W hsm (by omega) (hl.move (fun b _ hlt => ⟨trivial, hW.block b hlt⟩) hW.size)
  obtain ⟨la, lc, rfl, hlc1, hlc2, hlcl⟩ := hl
  obtain ⟨⟨px, pc, rfl⟩, ⟨py, pd, rfl⟩, _, _⟩ := hx.len
  have h3 : Below w.heap.size w (((w.alloc (.cells #[.int .i64 5, .bool y, .int .i64 m, .string t, .slice ax lx cx, .slice la l.length lc] 26)).alloc (.cells #[.int .i64 x.kind, .bool x.yes, .int .i64 x.num, .string x.text, .slice px x.list.length pc, .slice py x.fields.length pd] 26)).alloc (.cells #[.int .i64 0, .bool false, .int .i64 0, .string ⟨#[]⟩, .slice none 0 0, .slice none 0 0] 26)) := (((Below.refl _ w).alloc (Nat.le_refl _) _).alloc (by simp) _).alloc (by simp; omega) _
  have hsz : (((w.alloc (.cells #[.int .i64 5, .bool y, .int .i64 m, .string t, .slice ax lx cx, .slice la l.length lc] 26)).alloc (.cells #[.int .i64 x.kind, .bool x.yes, .int .i64 x.num, .string x.text, .slice px x.list.length pc, .slice py x.fields.length pd] 26)).alloc (.cells #[.int .i64 0, .bool false, .int .i64 0, .string ⟨#[]⟩, .slice none 0 0, .slice none 0 0] 26)).heap.size = w.heap.size + 3 := by simp
  have hcall := hwo _ h3
  have HCALL := Lib.hid hcall
  have HW : Hid (∀ w2 fv, Below (((w.alloc (.cells #[.int .i64 5, .bool y, .int .i64 m, .string t, .slice ax lx cx, .slice la l.length lc] 26)).alloc (.cells #[.int .i64 x.kind, .bool x.yes, .int .i64 x.num, .string x.text, .slice px x.list.length pc, .slice py x.fields.length pd] 26)).alloc (.cells #[.int .i64 0, .bool false, .int .i64 0, .string ⟨#[]⟩, .slice none 0 0, .slice none 0 0] 26)).heap.size (((w.alloc (.cells #[.int .i64 5, .bool y, .int .i64 m, .string t, .slice ax lx cx, .slice la l.length lc] 26)).alloc (.cells #[.int .i64 x.kind, .bool x.yes, .int .i64 x.num, .string x.text, .slice px x.list.length pc, .slice py x.fields.length pd] 26)).alloc (.cells #[.int .i64 0, .bool false, .int .i64 0, .string ⟨#[]⟩, .slice none 0 0, .slice none 0 0] 26)) w2 → FRow w2 (((w.alloc (.cells #[.int .i64 5, .bool y, .int .i64 m, .string t, .slice ax lx cx, .slice la l.length lc] 26)).alloc (.cells #[.int .i64 x.kind, .bool x.yes, .int .i64 x.num, .string x.text, .slice px x.list.length pc, .slice py x.fields.length pd] 26)).alloc (.cells #[.int .i64 0, .bool false, .int .i64 0, .string ⟨#[]⟩, .slice none 0 0, .slice none 0 0] 26)).heap.size fv (offF l nm) → ∃ va n vc, fv = .slice va n vc ∧ (offF l nm).length = n ∧ n ≤ 90000 ∧ WS w (w2.alloc (.cells #[.int .i64 5, .bool false, .int .i64 0, .string ⟨#[]⟩, .slice none 0 0, .slice va n vc] 26)) w2.heap.size x px pc py pd va n vc (offF l nm)) := Lib.hid fun w2 fv hb2 hrow => by
    have e1 := Box.new (w.alloc (.cells #[.int .i64 5, .bool y, .int .i64 m, .string t, .slice ax lx cx, .slice la l.length lc] 26)) 26 #[.int .i64 x.kind, .bool x.yes, .int .i64 x.num, .string x.text, .slice px x.list.length pc, .slice py x.fields.length pd]
    have e2 := Box.new ((w.alloc (.cells #[.int .i64 5, .bool y, .int .i64 m, .string t, .slice ax lx cx, .slice la l.length lc] 26)).alloc (.cells #[.int .i64 x.kind, .bool x.yes, .int .i64 x.num, .string x.text, .slice px x.list.length pc, .slice py x.fields.length pd] 26)) 26 #[.int .i64 0, .bool false, .int .i64 0, .string ⟨#[]⟩, .slice none 0 0, .slice none 0 0]
    rw [show (w.alloc (.cells #[.int .i64 5, .bool y, .int .i64 m, .string t, .slice ax lx cx, .slice la l.length lc] 26)).heap.size = w.heap.size + 1 by simp] at e1
    rw [show ((w.alloc (.cells #[.int .i64 5, .bool y, .int .i64 m, .string t, .slice ax lx cx, .slice la l.length lc] 26)).alloc (.cells #[.int .i64 x.kind, .bool x.yes, .int .i64 x.num, .string x.text, .slice px x.list.length pc, .slice py x.fields.length pd] 26)).heap.size = w.heap.size + 1 + 1 by simp] at e2
    have e1' := e1.alloc (.cells #[.int .i64 0, .bool false, .int .i64 0, .string ⟨#[]⟩, .slice none 0 0, .slice none 0 0] 26)
    have hs2 := hb2.size
    rw [hsz] at hs2
    obtain ⟨va, vc, rfl, _, _⟩ := hrow.form
    have hn : (offF l nm).length ≤ 90000 := by
      have := List.length_filter_le (fun p : Fd => !decide (p.1 = nm)) l
      unfold offF
      omega
    obtain ⟨n, hnn⟩ : ∃ n, n = (offF l nm).length := ⟨_, rfl⟩
    rw [← hnn] at hrow hn ⊢
    have hbA : Below w2.heap.size w2 (w2.alloc (.cells #[.int .i64 5, .bool false, .int .i64 0, .string ⟨#[]⟩, .slice none 0 0, .slice va n vc] 26)) := (Below.refl _ w2).alloc (Nat.le_refl _) _
    rw [hsz] at hrow
    have hrow2 := hrow.toP
    have hb5 := h3.trans (hb2.mono (by rw [hsz]; omega))
    have f1 : Box w2 (w.heap.size + 1) 26 #[.int .i64 x.kind, .bool x.yes, .int .i64 x.num, .string x.text, .slice px x.list.length pc, .slice py x.fields.length pd] := (hb2.block _ e1'.lt).trans e1'
    have f2 : Box w2 (w.heap.size + 1 + 1) 26 #[.int .i64 0, .bool false, .int .i64 0, .string ⟨#[]⟩, .slice none 0 0, .slice none 0 0] := (hb2.block _ e2.lt).trans e2
    refine ⟨va, n, vc, rfl, rfl, hn, f1.alloc _, f2.alloc _, Box.new w2 _ _, hrow2.keep (fun b hP hlt => ⟨⟨hP, by omega⟩, hbA.block b hlt⟩) (fun b ho => hbA.block b (hrow2.own b ho).2) hbA.size, hb5.trans (hbA.mono hb5.size), hx.below (hb5.trans (hbA.mono hb5.size)), by omega, fun q hq => by have := (hrow2.own q hq).2; omega⟩
  clear hwo hx hcall h3 hsz
  go_enter Try.func15, Try.ntmps15
  go_wp2_with fail
  refine HCALL.out.mono ?_
  rintro e w2 ⟨hb2, fv, rfl, hrow2⟩
  obtain ⟨va, n, vc, rfl, hn, hn9, hws⟩ := HW.out w2 fv hb2 hrow2
  have HST := Lib.hid hws
  clear hb2 hrow2 hws HW HCALL
  go_wp2_with fail
  generalize hmb : w2.heap.size = mb at HST ⊢
  clear hmb
  go_loopw [8] (fun i wr => ∃ j : Nat, j ≤ n ∧ i = .int .i64 j ∧ Hid (WS w wr mb x px pc py pd va n vc (offF l nm))) (fun i _ => n - (intOf i).toNat)
  case atStart => exact ⟨0, Nat.zero_le _, rfl, HST⟩
  case round =>
    obtain ⟨j, hj, rfl, HR⟩ := hrel
    clear HST
    by_cases hjl : j < n
    · have hjl' : (j : Int) < (n : Int) := by omega
      obtain ⟨w1, w2', w3, w4, w5, w6, w7, w8⟩ := HR.out
      obtain ⟨g, rfl, hcel⟩ : ∃ g, va = some ⟨g, 0, none⟩ ∧ ∃ s : ByteArray, wr.cell? ⟨g, j * 7, none⟩ = some (.string s) := by
        obtain ⟨cs, h1, h2⟩ := w4
        rcases h1.2 with ⟨h, h0⟩ | ⟨g, cap, cur, e1, e2, e3, e4, e5, e6, e7⟩
        · omega
        · injection e1 with e1 _ _
          refine ⟨g, e1, ?_⟩
          obtain ⟨lv, fv, g1, _⟩ := h2 j (by omega)
          have h9 := World.ownsRow.cells h1 (g := g) (by rw [e1]; rfl) (j * 7 + 0) _ (g1 0 _ rfl)
          have e : ((⟨g, 0, none⟩ : Addr).add (j * 7 + 0)) = ⟨g, j * 7, none⟩ := by unfold Addr.add; by_cases h0 : j = 0 <;> simp [h0] <;> omega
          rw [e] at h9
          exact ⟨_, h9⟩
      obtain ⟨s, hs⟩ := hcel
      have c5 := w3.six.1.2.2.2.2.2
      have HJ := Lib.hid hjl
      cases hless : Op.bytesLess s.toList nm.toList
      · clear w1 w2' w3 w4 w5 w6 w7 w8
        obtain ⟨w1, w2', w3, w4, w5, w6, w7, w8⟩ := HR.out
        have hws := HR.out
        have hx6 : x.Is wr.drew (.slice px x.list.length pc) (.slice py x.fields.length pd) := V.At.drew w6
        have HCL := Lib.hid (vclone_any x _ _ wr.drew hxs hx6)
        have HK : Hid (∀ w5 lv' fv', x.At w5 (fun q => wr.drew.heap.size ≤ q) lv' fv' → Below wr.drew.heap.size wr.drew w5 → Box w5 mb 26 #[.int .i64 5, .bool false, .int .i64 0, .string ⟨#[]⟩, .slice none 0 0, .slice (some ⟨g, 0, none⟩) n vc] ∧ Box w5 (w.heap.size + 1) 26 #[.int .i64 x.kind, .bool x.yes, .int .i64 x.num, .string x.text, .slice px x.list.length pc, .slice py x.fields.length pd] ∧
            Calls Try.prog 40 #[.slice (some ⟨g, 0, none⟩) n vc, .int .i64 j, .slice (some ⟨w5.heap.size, 0, none⟩) 1 1] (w5.alloc (.cells #[.string nm, .int .i64 x.kind, .bool x.yes, .int .i64 x.num, .string x.text, lv', fv'] 30)) (WFin w mb n vc (some ⟨g, 0, none⟩) (insF (offF l nm) j (nm, x)))) := Lib.hid (by
          intro u5 lv' fv' hat hb5
          have hu : Below wr.heap.size wr u5 := ⟨hb5.os, hb5.tape, hb5.output, hb5.size, hb5.block⟩
          obtain ⟨v1, v2, v3, v4, v5, v6, v7, v8⟩ := WS.below hws hu
          have hbA : Below u5.heap.size u5 (u5.alloc (.cells #[.string nm, .int .i64 x.kind, .bool x.yes, .int .i64 x.num, .string x.text, lv', fv'] 30)) := (Below.refl _ u5).alloc (Nat.le_refl _) _
          obtain ⟨a1, a2, a3, a4, a5, a6, a7, a8⟩ := WS.below (WS.below hws hu) hbA
          have hmlt := w3.lt
          have husz := hu.size
          have hBsz : w.heap.size + 3 ≤ (u5.alloc (.cells #[.string nm, .int .i64 x.kind, .bool x.yes, .int .i64 x.num, .string x.text, lv', fv'] 30)).heap.size := by simp; omega
          have hAsz : (u5.alloc (.cells #[.string nm, .int .i64 x.kind, .bool x.yes, .int .i64 x.num, .string x.text, lv', fv'] 30)).heap.size = u5.heap.size + 1 := by simp
          have hins := ins_any (i := j) (vb := u5.heap.size) (f := (nm, x)) (lv := lv') (fv := fv') a4 hn (by omega) hj hBsz (fun e => by have := (v4.own _ e).2; omega) (Box.new u5 _ _) ((hat.below hbA).wider fun q hq => ⟨⟨by have : wr.heap.size ≤ q := hq; omega, fun e => by have : wr.heap.size ≤ q := hq; omega⟩, fun e => by have : wr.heap.size ≤ q := hq; have := (w4.own _ e).2; omega⟩)
          refine ⟨v3, v1, hins.mono ?_⟩
          rintro e w6' ⟨vv', rfl, hrow6, hup⟩
          have hform := hrow6.form
          rw [insF_length (by omega), hn] at hform
          obtain ⟨qa, qc, rfl, _, _⟩ := hform
          have hne : ∀ q, q < w.heap.size + 3 → (Value.slice (some ⟨g, 0, none⟩) n vc).ownBlock ≠ some q := fun q hq e => by have := (a4.own _ e).1; omega
          have hm6 : Box w6' mb 26 #[.int .i64 5, .bool false, .int .i64 0, .string ⟨#[]⟩, .slice none 0 0, .slice (some ⟨g, 0, none⟩) n vc] := (hup.1.block mb (by omega) (fun e => a8 mb e.symm rfl)).trans a3
          have hz6 : Box w6' (w.heap.size + 1 + 1) 26 #[.int .i64 0, .bool false, .int .i64 0, .string ⟨#[]⟩, .slice none 0 0, .slice none 0 0] := (hup.1.block _ (by omega) (fun e => hne _ (by omega) e.symm)).trans a2
          have hb6 : Below w.heap.size w w6' := a5.grown hup.1 (by omega) (fun q hq => by have := (a4.own q hq).1; omega)
          have hown' : ∀ q, (Value.slice qa (n + 1) qc).ownBlock = some q → q ≠ mb := fun q hq => by
            rcases hup.2 with e2 | e2
            · rw [e2] at hq; exact a8 q hq
            · have := e2 q hq; omega
          refine ⟨qa, qc, rfl, hm6, hz6.setFar (by show w.heap.size + 1 + 1 ≠ mb; omega) _, hm6.setSame 5 _, ?_, hb6.setCell (by show w.heap.size ≤ mb; omega) _⟩
          exact (hrow6.keep (P' := fun q => w.heap.size + 3 ≤ q ∧ q ≠ mb) (w' := w6'.setCell ⟨mb, 5, none⟩ (.slice qa (n + 1) qc)) (fun b hP _ => ⟨hP, Below.heap_setCell w6' _ _ b hP.2⟩) (fun b ho => Below.heap_setCell w6' _ _ b (hown' b ho)) (by simp [World.setCell])).toRow (Nat.le_refl _) fun x hx => hx.1)
        obtain ⟨⟨m0, m1, m2, m3, m4, _⟩, _⟩ := w3.six
        obtain ⟨⟨x0, x1, x2, x3, x4, x5⟩, _⟩ := w1.six
        have HJN : Hid (j ≤ (offF l nm).length) := Lib.hid (by omega)
        have hmlt := w3.lt
        have hxlt := w1.lt
        clear w1 w2' w3 w4 w5 w6 w7 w8 hws hx6 hj hn hxs hsm
        go_wp2_with fail
        go_region_with (first
          | (go_at_call 40; refine HINS.out.mono ?_; rintro e w6 ⟨qa, qc, rfl, hm6, hfin⟩; have HE := Lib.hid hfin; have o5 := hm6.six.1.2.2.2.2.2; have y5 := hm6.six.2.2.2.2.2.2; clear hm6 hfin)
          | (go_at_call 39; refine HCL.out.mono ?_; rintro e w5 ⟨lv', fv', rfl, hat, hb5⟩; obtain ⟨⟨l0, l1, rfl⟩, ⟨l2, l3, rfl⟩, _, _⟩ := hat.is.len; obtain ⟨hm5, hx5, hins⟩ := HK.out w5 _ _ hat hb5; have HINS := Lib.hid hins; have t5 := hm5.six.1.2.2.2.2.2; have v5 := (hm5.alloc (.cells #[.string nm, .int .i64 x.kind, .bool x.yes, .int .i64 x.num, .string x.text, .slice l0 x.list.length l1, .slice l2 x.fields.length l3] 30)).six.1.2.2.2.2.2; obtain ⟨⟨r0, r1, r2, r3, r4, r5⟩, _⟩ := hx5.six; clear hm5 hx5 hins hat hb5))
        all_goals
          obtain ⟨f1, f2, f3, f4⟩ := HE.out
          generalize w6.setCell ⟨mb, 5, none⟩ (.slice qa (n + 1) qc) = w9 at HE f1 f2 f3 f4 ⊢
          obtain ⟨⟨k0, k1, k2, k3, k4, k5⟩, _⟩ := f2.six
          obtain ⟨⟨z0, z1, z2, z3, z4, z5⟩, s0, s1, s2, s3, s4, s5⟩ := f1.six
          have hF := Box.sets [.int .i64 5, .bool false, .int .i64 0, .string ⟨#[]⟩, .slice none 0 0, .slice qa (n + 1) qc] 0 f1
          obtain ⟨⟨n0, n1, n2, n3, n4, n5⟩, _⟩ := Box.six (c0 := .int .i64 5) (c1 := .bool false) (c2 := .int .i64 0) (c3 := .string ⟨#[]⟩) (c4 := .slice none 0 0) (c5 := .slice qa (n + 1) qc) hF
          simp only [sets, Nat.zero_add, Nat.reduceAdd] at n0 n1 n2 n3 n4 n5
          have hb5 := Below.sets [.int .i64 5, .bool false, .int .i64 0, .string ⟨#[]⟩, .slice none 0 0, .slice qa (n + 1) qc] 0 f4 (g := w.heap.size + 1 + 1) (by omega)
          have hrow5 : FRow (sets w9 (w.heap.size + 1 + 1) 0 [.int .i64 5, .bool false, .int .i64 0, .string ⟨#[]⟩, .slice none 0 0, .slice qa (n + 1) qc]) (w.heap.size + 3) (.slice qa (n + 1) qc) (insF (offF l nm) j (nm, x)) := f3.keep (fun b hb9 _ => sets_far _ _ _ _ (by omega)) (by rw [sets_size]; exact Nat.le_refl _)
          have HO9 : Hid (WithP l nm x w (.returned (.agg #[.int .i64 5, .bool false, .int .i64 0, .string ⟨#[]⟩, .slice none 0 0, .slice qa (n + 1) qc])) (sets w9 (w.heap.size + 1 + 1) 0 [.int .i64 5, .bool false, .int .i64 0, .string ⟨#[]⟩, .slice none 0 0, .slice qa (n + 1) qc])) :=
            Lib.hid ⟨hb5, _, j, HJN.out, rfl, hrow5.base (by omega)⟩
          clear f1 f2 f3 f4 hF hb5 hrow5 HE
          go_wp2
          exact bodyPost_ret (v := .agg #[.int .i64 5, .bool false, .int .i64 0, .string ⟨#[]⟩, .slice none 0 0, .slice qa (n + 1) qc]) (by simp [results, Try.results15, go_sem, n0, n1, n2, n3, n4, n5]) rfl HO9.out
      · clear w1 w2' w3 w4 w5 w6 w7 w8
        go_wp2
        go_roundw
        case rel => exact ⟨j + 1, HJ.out, by have := HJ.out; go_num, HR⟩
        case measure => have := HJ.out; simp [intOf]; omega
    · obtain rfl : j = n := by omega
      have hge : ¬ (j : Int) < (j : Int) := by omega
      clear hjl
      obtain ⟨w1, w2', w3, w4, w5, w6, w7, w8⟩ := HR.out
      have hws := HR.out
      have hx6 : x.Is wr.drew (.slice px x.list.length pc) (.slice py x.fields.length pd) := V.At.drew w6
      have HCL := Lib.hid (vclone_any x _ _ wr.drew hxs hx6)
      have HK : Hid (∀ w5 lv' fv', x.At w5 (fun q => wr.drew.heap.size ≤ q) lv' fv' → Below wr.drew.heap.size wr.drew w5 → Box w5 mb 26 #[.int .i64 5, .bool false, .int .i64 0, .string ⟨#[]⟩, .slice none 0 0, .slice va j vc] ∧ Box w5 (w.heap.size + 1) 26 #[.int .i64 x.kind, .bool x.yes, .int .i64 x.num, .string x.text, .slice px x.list.length pc, .slice py x.fields.length pd] ∧
          Calls Try.prog 40 #[.slice va j vc, .int .i64 j, .slice (some ⟨w5.heap.size, 0, none⟩) 1 1] (w5.alloc (.cells #[.string nm, .int .i64 x.kind, .bool x.yes, .int .i64 x.num, .string x.text, lv', fv'] 30)) (WFin w mb j vc va (insF (offF l nm) j (nm, x)))) := Lib.hid (by
        intro u5 lv' fv' hat hb5
        have hu : Below wr.heap.size wr u5 := ⟨hb5.os, hb5.tape, hb5.output, hb5.size, hb5.block⟩
        obtain ⟨v1, v2, v3, v4, v5, v6, v7, v8⟩ := WS.below hws hu
        have hbA : Below u5.heap.size u5 (u5.alloc (.cells #[.string nm, .int .i64 x.kind, .bool x.yes, .int .i64 x.num, .string x.text, lv', fv'] 30)) := (Below.refl _ u5).alloc (Nat.le_refl _) _
        obtain ⟨a1, a2, a3, a4, a5, a6, a7, a8⟩ := WS.below (WS.below hws hu) hbA
        have hmlt := w3.lt
        have husz := hu.size
        have hBsz : w.heap.size + 3 ≤ (u5.alloc (.cells #[.string nm, .int .i64 x.kind, .bool x.yes, .int .i64 x.num, .string x.text, lv', fv'] 30)).heap.size := by simp; omega
        have hAsz : (u5.alloc (.cells #[.string nm, .int .i64 x.kind, .bool x.yes, .int .i64 x.num, .string x.text, lv', fv'] 30)).heap.size = u5.heap.size + 1 := by simp
        have hins := ins_any (i := j) (vb := u5.heap.size) (f := (nm, x)) (lv := lv') (fv := fv') a4 hn (by omega) hj hBsz (fun e => by have := (v4.own _ e).2; omega) (Box.new u5 _ _) ((hat.below hbA).wider fun q hq => ⟨⟨by have : wr.heap.size ≤ q := hq; omega, fun e => by have : wr.heap.size ≤ q := hq; omega⟩, fun e => by have : wr.heap.size ≤ q := hq; have := (w4.own _ e).2; omega⟩)
        refine ⟨v3, v1, hins.mono ?_⟩
        rintro e w6' ⟨vv', rfl, hrow6, hup⟩
        have hform := hrow6.form
        rw [insF_length (by omega), hn] at hform
        obtain ⟨qa, qc, rfl, _, _⟩ := hform
        have hne : ∀ q, q < w.heap.size + 3 → (Value.slice va j vc).ownBlock ≠ some q := fun q hq e => by have := (a4.own _ e).1; omega
        have hm6 : Box w6' mb 26 #[.int .i64 5, .bool false, .int .i64 0, .string ⟨#[]⟩, .slice none 0 0, .slice va j vc] := (hup.1.block mb (by omega) (fun e => a8 mb e.symm rfl)).trans a3
        have hz6 : Box w6' (w.heap.size + 1 + 1) 26 #[.int .i64 0, .bool false, .int .i64 0, .string ⟨#[]⟩, .slice none 0 0, .slice none 0 0] := (hup.1.block _ (by omega) (fun e => hne _ (by omega) e.symm)).trans a2
        have hb6 : Below w.heap.size w w6' := a5.grown hup.1 (by omega) (fun q hq => by have := (a4.own q hq).1; omega)
        have hown' : ∀ q, (Value.slice qa (j + 1) qc).ownBlock = some q → q ≠ mb := fun q hq => by
          rcases hup.2 with e2 | e2
          · rw [e2] at hq; exact a8 q hq
          · have := e2 q hq; omega
        refine ⟨qa, qc, rfl, hm6, hz6.setFar (by show w.heap.size + 1 + 1 ≠ mb; omega) _, hm6.setSame 5 _, ?_, hb6.setCell (by show w.heap.size ≤ mb; omega) _⟩
        exact (hrow6.keep (P' := fun q => w.heap.size + 3 ≤ q ∧ q ≠ mb) (w' := w6'.setCell ⟨mb, 5, none⟩ (.slice qa (j + 1) qc)) (fun b hP _ => ⟨hP, Below.heap_setCell w6' _ _ b hP.2⟩) (fun b ho => Below.heap_setCell w6' _ _ b (hown' b ho)) (by simp [World.setCell])).toRow (Nat.le_refl _) fun x hx => hx.1)
      obtain ⟨⟨m0, m1, m2, m3, m4, c5⟩, _⟩ := w3.six
      obtain ⟨⟨x0, x1, x2, x3, x4, x5⟩, _⟩ := w1.six
      have HJN : Hid (j ≤ (offF l nm).length) := Lib.hid (by omega)
      have hmlt := w3.lt
      have hxlt := w1.lt
      clear w1 w2' w3 w4 w5 w6 w7 w8 hws hx6 hj hn hxs hsm
      go_wp2_with fail
      go_region_with (first
        | (go_at_call 40; refine HINS.out.mono ?_; rintro e w6 ⟨qa, qc, rfl, hm6, hfin⟩; have HE := Lib.hid hfin; have o5 := hm6.six.1.2.2.2.2.2; have y5 := hm6.six.2.2.2.2.2.2; clear hm6 hfin)
        | (go_at_call 39; refine HCL.out.mono ?_; rintro e w5 ⟨lv', fv', rfl, hat, hb5⟩; obtain ⟨⟨l0, l1, rfl⟩, ⟨l2, l3, rfl⟩, _, _⟩ := hat.is.len; obtain ⟨hm5, hx5, hins⟩ := HK.out w5 _ _ hat hb5; have HINS := Lib.hid hins; have t5 := hm5.six.1.2.2.2.2.2; have v5 := (hm5.alloc (.cells #[.string nm, .int .i64 x.kind, .bool x.yes, .int .i64 x.num, .string x.text, .slice l0 x.list.length l1, .slice l2 x.fields.length l3] 30)).six.1.2.2.2.2.2; obtain ⟨⟨r0, r1, r2, r3, r4, r5⟩, _⟩ := hx5.six; clear hm5 hx5 hins hat hb5))
      all_goals
        obtain ⟨f1, f2, f3, f4⟩ := HE.out
        generalize w6.setCell ⟨mb, 5, none⟩ (.slice qa (j + 1) qc) = w9 at HE f1 f2 f3 f4 ⊢
        obtain ⟨⟨k0, k1, k2, k3, k4, k5⟩, _⟩ := f2.six
        obtain ⟨⟨z0, z1, z2, z3, z4, z5⟩, s0, s1, s2, s3, s4, s5⟩ := f1.six
        have hF := Box.sets [.int .i64 5, .bool false, .int .i64 0, .string ⟨#[]⟩, .slice none 0 0, .slice qa (j + 1) qc] 0 f1
        obtain ⟨⟨n0, n1, n2, n3, n4, n5⟩, _⟩ := Box.six (c0 := .int .i64 5) (c1 := .bool false) (c2 := .int .i64 0) (c3 := .string ⟨#[]⟩) (c4 := .slice none 0 0) (c5 := .slice qa (j + 1) qc) hF
        simp only [sets, Nat.zero_add, Nat.reduceAdd] at n0 n1 n2 n3 n4 n5
        have hb5 := Below.sets [.int .i64 5, .bool false, .int .i64 0, .string ⟨#[]⟩, .slice none 0 0, .slice qa (j + 1) qc] 0 f4 (g := w.heap.size + 1 + 1) (by omega)
        have hrow5 : FRow (sets w9 (w.heap.size + 1 + 1) 0 [.int .i64 5, .bool false, .int .i64 0, .string ⟨#[]⟩, .slice none 0 0, .slice qa (j + 1) qc]) (w.heap.size + 3) (.slice qa (j + 1) qc) (insF (offF l nm) j (nm, x)) := f3.keep (fun b hb9 _ => sets_far _ _ _ _ (by omega)) (by rw [sets_size]; exact Nat.le_refl _)
        have HO9 : Hid (WithP l nm x w (.returned (.agg #[.int .i64 5, .bool false, .int .i64 0, .string ⟨#[]⟩, .slice none 0 0, .slice qa (j + 1) qc])) (sets w9 (w.heap.size + 1 + 1) 0 [.int .i64 5, .bool false, .int .i64 0, .string ⟨#[]⟩, .slice none 0 0, .slice qa (j + 1) qc])) :=
          Lib.hid ⟨hb5, _, j, HJN.out, rfl, hrow5.base (by omega)⟩
        clear f1 f2 f3 f4 hF hb5 hrow5 HE
        go_wp2
        exact bodyPost_ret (v := .agg #[.int .i64 5, .bool false, .int .i64 0, .string ⟨#[]⟩, .slice none 0 0, .slice qa (j + 1) qc]) (by simp [results, Try.results15, go_sem, n0, n1, n2, n3, n4, n5]) rfl HO9.out

end Go.Proofs.Ytcocljgafhpdaaa
end

section
namespace Go.Proofs.Ytcocljgafhpdaaa
open Go.RowKit

attribute [local irreducible] wpStill

theorem cell4 {w w' : World} {b : Nat} {c0 c1 c2 c3 : Value} (hb : Below w.heap.size w w') (hlt : b + 1 < w.heap.size) (h0 : w.cell? ⟨b, 4, none⟩ = some c0) (h1 : w.cell? ⟨b + 1, 4, none⟩ = some c1) (h2 : w.cell? ⟨b, 5, none⟩ = some c2) (h3 : w.cell? ⟨b + 1, 5, none⟩ = some c3) :
    w'.cell? ⟨b, 4, none⟩ = some c0 ∧ w'.cell? ⟨b + 1, 4, none⟩ = some c1 ∧ w'.cell? ⟨b, 5, none⟩ = some c2 ∧ w'.cell? ⟨b + 1, 5, none⟩ = some c3 :=
  ⟨(hb.cell (p := ⟨b, 4, none⟩) (by show b < _; omega)).trans h0, (hb.cell (p := ⟨b + 1, 4, none⟩) hlt).trans h1, (hb.cell (p := ⟨b, 5, none⟩) (by show b < _; omega)).trans h2, (hb.cell (p := ⟨b + 1, 5, none⟩) hlt).trans h3⟩

def SameOK (N : Nat) : Prop := ∀ (v : V) (lv fv lo fo : Value) (w : World), v.dep ≤ N → v.Is w lv fv → v.Is w lo fo →
  Calls Try.prog 13 #[.agg #[.int .i64 v.kind, .bool v.yes, .int .i64 v.num, .string v.text, lv, fv], .agg #[.int .i64 v.kind, .bool v.yes, .int .i64 v.num, .string v.text, lo, fo]] w fun e w' => e = .returned (.bool true) ∧ Below w.heap.size w w'

set_option maxHeartbeats 4000000 in
set_option maxRecDepth 100000 in
theorem same_step (N : Nat) (ih : SameOK N) : SameOK (N + 1) := by
  intro v lv fv lo fo w hdep his hos
  obtain ⟨⟨a, c, rfl⟩, ⟨a', c', rfl⟩, hLb, hFb⟩ := his.len
  obtain ⟨⟨g, d, rfl⟩, ⟨g', d', rfl⟩, _, _⟩ := hos.len
  obtain ⟨k, y, n, t, l, f⟩ := v
  have hdl : ∀ x ∈ l, x.dep ≤ N := fun x hx => by have := dep_list (v := .mk k y n t l f) hx; omega
  have hdf : ∀ p ∈ f, p.2.dep ≤ N := fun p hp => by have := dep_fields (v := .mk k y n t l f) hp; omega
  have HDL := Lib.hid hdl
  have HDF := Lib.hid hdf
  clear hdl hdf hdep
  simp only [V.kind, V.yes, V.num, V.text, V.list, V.fields] at *
  have hb0 := two_boxes w #[.int .i64 k, .bool y, .int .i64 n, .string t, .slice a l.length c, .slice a' f.length c'] #[.int .i64 k, .bool y, .int .i64 n, .string t, .slice g l.length d, .slice g' f.length d'] 26
  go_enter Try.func13, Try.ntmps13
  go_wp2_with fail
  go_loopw [54] (fun i wr => ∃ j : Nat, j ≤ l.length ∧ i = .int .i64 j ∧ Below w.heap.size w wr ∧ (wr.cell? ⟨w.heap.size, 4, none⟩ = some (.slice a l.length c) ∧ wr.cell? ⟨w.heap.size + 1, 4, none⟩ = some (.slice g l.length d) ∧ wr.cell? ⟨w.heap.size, 5, none⟩ = some (.slice a' f.length c') ∧ wr.cell? ⟨w.heap.size + 1, 5, none⟩ = some (.slice g' f.length d')) ∧ w.heap.size + 1 < wr.heap.size) (fun i _ => l.length - (intOf i).toNat)
  case atStart =>
    refine ⟨0, Nat.zero_le _, rfl, hb0, ⟨?_, ?_, ?_, ?_⟩, by simp⟩ <;> simp
  case round =>
    obtain ⟨j, hj, rfl, hbr, ⟨hc0, hc1, hc2, hc3⟩, hlt0⟩ := hrel
    have hzr := hbr.size
    by_cases hjl : j < l.length
    · obtain ⟨b, off, cc, lv', fv', e1, hbl, hin, hel⟩ := (his.below hbr).elem (i := j) hjl
      obtain ⟨b', off', cc', lw', fw', e2, hbl', hin', hel'⟩ := (hos.below hbr).elem (i := j) hjl
      injection e1 with e1 e3 e4
      injection e2 with e2 e5 e6
      clear e3 e5
      subst e1 e2 e4 e6
      have hxd := HDL.out _ (List.getElem_mem hjl)
      obtain ⟨q0, q1, q2, q3, q4, q5⟩ := hin.six
      obtain ⟨p0, p1, p2, p3, p4, p5⟩ := hin'.six
      simp only [V.list] at q0 q1 q2 q3 q4 q5 p0 p1 p2 p3 p4 p5 hel hel'
      generalize l[j] = x at q0 q1 q2 q3 q4 q5 p0 p1 p2 p3 p4 p5 hel hel' hxd
      obtain ⟨⟨ax, cx, rfl⟩, ⟨ax', cx', rfl⟩, _, _⟩ := hel.len
      obtain ⟨⟨bx, dx, rfl⟩, ⟨bx', dx', rfl⟩, _, _⟩ := hel'.len
      have hjl' : (j : Int) < (l.length : Int) := by omega
      have hj0 : (0 : Int) ≤ (j : Int) := by omega
      have hcall := ih x _ _ _ _ wr.drew hxd (V.At.drew hel) (V.At.drew hel')
      have HC := Lib.hid hcall
      clear hin hel hin' hel' hcall
      go_wp2_with fail
      refine wp_region_still_tail 10 (by kernel_rfl) (by kernel_rfl) ?_
      change wpStill _ _ (World.drew _) (fun a' => wpList _ _ _ _ a' (World.drew _)) _ _
      simp only [List.take_succ_cons, List.take_zero, List.drop_succ_cons, List.drop_zero]
      repeat still_step
      refine wpStill_nil ?_
      have hcall2 := HC.out
      go_wp2_with fail
      refine hcall2.mono ?_
      rintro e w2 ⟨rfl, hb2'⟩
      have hb21 : Below wr.heap.size wr w2 := (Below.refl _ wr).drew.trans hb2'
      have hb2 := hbr.trans (hb21.mono hzr)
      have hc' := cell4 hb21 hlt0 hc0 hc1 hc2 hc3
      have hlt2 : w.heap.size + 1 < w2.heap.size := Nat.lt_of_lt_of_le hlt0 hb21.size
      clear hcall2 hb2' hb21
      go_wp2
      go_roundw
      case rel => exact ⟨j + 1, by omega, by go_num, hb2, hc', hlt2⟩
      case measure => simp [intOf]; omega
    · have hge : ¬ (j : Int) < (l.length : Int) := by omega
      clear hjl
      go_wp2
      go_loopw [73] (fun i wr => ∃ j : Nat, j ≤ f.length ∧ i = .int .i64 j ∧ Below w.heap.size w wr ∧ (wr.cell? ⟨w.heap.size, 4, none⟩ = some (.slice a l.length c) ∧ wr.cell? ⟨w.heap.size + 1, 4, none⟩ = some (.slice g l.length d) ∧ wr.cell? ⟨w.heap.size, 5, none⟩ = some (.slice a' f.length c') ∧ wr.cell? ⟨w.heap.size + 1, 5, none⟩ = some (.slice g' f.length d')) ∧ w.heap.size + 1 < wr.heap.size) (fun i _ => f.length - (intOf i).toNat)
      case atStart => exact ⟨0, Nat.zero_le _, rfl, hbr, ⟨hc0, hc1, hc2, hc3⟩, hlt0⟩
      case round =>
        clear hbr hzr hge hj hlt0 hc0 hc1 hc2 hc3
        obtain ⟨j, hj, rfl, hbr, ⟨hc0, hc1, hc2, hc3⟩, hlt0⟩ := hrel
        have hzr := hbr.size
        by_cases hjl : j < f.length
        · obtain ⟨b, off, cc, lv', fv', e1, hbl, hin, hel⟩ := (his.below hbr).field (i := j) hjl
          obtain ⟨b', off', cc', lw', fw', e2, hbl', hin', hel'⟩ := (hos.below hbr).field (i := j) hjl
          injection e1 with e1 e3 e4
          injection e2 with e2 e5 e6
          clear e3 e5
          subst e1 e2 e4 e6
          have hxd := HDF.out _ (List.getElem_mem hjl)
          simp only [V.fields] at hin hin' hel hel'
          obtain ⟨q0, q1, q2, q3, q4, q5, q6⟩ := hin.seven
          obtain ⟨p0, p1, p2, p3, p4, p5, p6⟩ := hin'.seven
          generalize (f[j]).1 = nm at q0 p0
          generalize (f[j]).2 = x at q1 q2 q3 q4 q5 q6 p1 p2 p3 p4 p5 p6 hel hel' hxd
          obtain ⟨⟨ax, cx, rfl⟩, ⟨ax', cx', rfl⟩, _, _⟩ := hel.len
          obtain ⟨⟨bx, dx, rfl⟩, ⟨bx', dx', rfl⟩, _, _⟩ := hel'.len
          have hjl' : (j : Int) < (f.length : Int) := by omega
          have hj0 : (0 : Int) ≤ (j : Int) := by omega
          have hcall := ih x _ _ _ _ wr.drew hxd (V.At.drew hel) (V.At.drew hel')
          have HC := Lib.hid hcall
          clear hin hel hin' hel' hcall
          go_wp2_with fail
          refine wp_region_still_tail 26 (by kernel_rfl) (by kernel_rfl) ?_
          change wpStill _ _ (World.drew _) (fun a' => wpList _ _ _ _ a' (World.drew _)) _ _
          simp only [List.take_succ_cons, List.take_zero, List.drop_succ_cons, List.drop_zero]
          repeat still_step
          refine wpStill_nil ?_
          have hcall2 := HC.out
          go_wp2_with fail
          refine hcall2.mono ?_
          rintro e w2 ⟨rfl, hb2'⟩
          have hb21 : Below wr.heap.size wr w2 := (Below.refl _ wr).drew.trans hb2'
          have hb2 := hbr.trans (hb21.mono hzr)
          have hc' := cell4 hb21 hlt0 hc0 hc1 hc2 hc3
          have hlt2 : w.heap.size + 1 < w2.heap.size := Nat.lt_of_lt_of_le hlt0 hb21.size
          clear hcall2 hb2' hb21
          go_wp2
          go_roundw
          case rel => exact ⟨j + 1, by omega, by go_num, hb2, hc', hlt2⟩
          case measure => simp [intOf]; omega
        · have hge : ¬ (j : Int) < (f.length : Int) := by omega
          clear hjl
          go_wp2
          go_ret
          exact ⟨rfl, hbr⟩

theorem same_all : ∀ N, SameOK N
  | 0 => fun v lv fv lo fo w hd _ _ => by
    cases v
    rw [V.dep] at hd
    omega
  | N + 1 => same_step N (same_all N)

theorem sameEq_any (v : V) (lv fv lo fo : Value) (w : World) (h : v.Is w lv fv) (h2 : v.Is w lo fo) :
    Calls Try.prog 13 #[.agg #[.int .i64 v.kind, .bool v.yes, .int .i64 v.num, .string v.text, lv, fv], .agg #[.int .i64 v.kind, .bool v.yes, .int .i64 v.num, .string v.text, lo, fo]] w fun e w' => e = .returned (.bool true) ∧ Below w.heap.size w w' :=
  same_all v.dep v lv fv lo fo w (Nat.le_refl _) h h2

end Go.Proofs.Ytcocljgafhpdaaa
end

section
namespace Go.Proofs.Ytcocljgafhpdaaa
open Go.RowKit

/-- every operation behind number n waits for one of those from n on -/
def behindB (ops : Array Oper) (n : Nat) : Bool :=
  (List.range ops.size).all fun t => decide (t ≤ n) || (List.range t).any fun e => decide (n ≤ e) && Region.waitsFor .any ops t e

/-- the operations 0 .. n-1 can be listed in the text's order, each of them apart from all that need not wait for it; behind them stands T -/
def lexTo (ops : Array Oper) (T : Array Bool → Bool) : Nat → Nat → Array Bool → Bool
  | 0, _, listed => T listed
  | f + 1, k, listed => (Region.ready .any ops listed).contains k && Region.free .any ops listed k && lexTo ops T f (k + 1) (listed.setIfInBounds k true)

def midT (ops : Array Oper) (n g : Nat) (listed : Array Bool) : Bool :=
  decide (Region.ready .any ops listed = [n]) && Region.lexFrom .any ops g (n + 1) (listed.setIfInBounds n true)

def midB (ops : Array Oper) (n : Nat) : Bool :=
  Region.noSelect ops && decide (n < ops.size) && Region.sinkB .any ops n && behindB ops n && lexTo ops (midT ops n (ops.size - n - 1)) n 0 (Array.replicate ops.size false)

section
variable {P : Program} {ops : Array Oper} {w : World}

theorem mid_waits {n : Nat} {listed : Array Bool} (hs : Region.sinkB .any ops n = true) (hc : behindB ops n = true) (hn : n < ops.size) (inv : HeadInv .any ops n listed) {i : Nat} (hi : i < n) (hun : listed.getD i true = false)
    (t : Nat) (ht : n ≤ t) : t ∉ Region.ready .any ops listed := by
  intro hr
  obtain ⟨_, ot, hot, hall⟩ := mem_ready.1 hr
  have htlt : t < ops.size := (Array.getElem?_eq_some_iff.1 hot).1
  rcases Nat.lt_or_ge n t with htn | htn
  · have h1 := List.all_eq_true.1 hc t (List.mem_range.2 htlt)
    simp only [Bool.or_eq_true, decide_eq_true_eq] at h1
    rcases h1 with h1 | h1
    · omega
    · obtain ⟨e, he, he2⟩ := List.any_eq_true.1 h1
      simp only [Bool.and_eq_true, decide_eq_true_eq] at he2
      obtain ⟨oj, hoj, d, hd, hb, hon⟩ := Region.waitsFor_spec he2.2
      rw [hot] at hoj
      injection hoj with hoj
      subst hoj
      have h2 := hall d hd hb
      rw [hon, getD_both (inv.tail e he2.1 (by have := List.mem_range.1 he; omega))] at h2
      cases h2
  · obtain rfl : t = n := by omega
    -- the last one that is not yet listed has something ahead of t, or t itself, waiting for it
    have key : ∀ d i, t - i = d → i < t → listed.getD i true = false → False := by
      intro d
      induction d using Nat.strongRecOn with
      | ind d ih =>
        intro i hd hi hun
        obtain ⟨j, hj, hj2⟩ := List.any_eq_true.1 (List.all_eq_true.1 hs i (List.mem_range.2 hi))
        simp only [Bool.and_eq_true, decide_eq_true_eq] at hj2
        obtain ⟨oj, hoj, e, he, hb, hon⟩ := Region.waitsFor_spec hj2.2
        have hjle := List.mem_range.1 hj
        cases hl : listed.getD j false with
        | true =>
          have h2 := inv.closed j oj hoj hl e he hb
          rw [hon, getD_both hun] at h2
          cases h2
        | false =>
          by_cases hjt : j = t
          · subst hjt
            rw [hot] at hoj
            injection hoj with hoj
            subst hoj
            have h2 := hall e he hb
            rw [hon, getD_both hun] at h2
            cases h2
          · exact ih (t - j) (by omega) j rfl (by omega) (getD_in (by rw [inv.size]; omega) hl)
    exact key _ i rfl hi hun

theorem mid_first {n i : Nat} {oi : Oper} {v : Value} {L : Array Bool → Act → Prop} (hi : ops[i]? = some oi) (hsel : ∀ (j : Nat) (o : Oper) cs b, ops[j]? = some o → o.op ≠ .select cs b)
    (hs : Region.sinkB .any ops n = true) (hc : behindB ops n = true) (hn : n < ops.size) (hin : i < n) (hdone : ∀ listed a, L listed a → ∀ j ∈ Region.ready .any ops listed, n ≤ j) :
    ∀ (f : Nat) (listed : Array Bool) (a : Act), HeadInv .any ops n listed →
      (∀ j oj, ops[j]? = some oj → j ≠ i → listed.getD j true = false → (∀ e ∈ oj.after, Region.binds .any e = true → e.on ≠ i) → oi.apart ops oj = true) →
      i ∈ Region.ready .any ops listed → YieldsAt P ops w oi v a →
      wpAnyL P .any ops w n L f (listed.setIfInBounds i true) (a.put oi.dst v) → wpAnyL P .any ops w n L (f + 1) listed a
  | f, listed, a, inv, hfree, hr, hy, H => by
    have hun := (mem_ready.1 hr).1
    refine ⟨fun h => (by rw [h] at hr; cases hr), fun j hj => ?_⟩
    have hjn : j < n := by
      rcases Nat.lt_or_ge j n with h | h
      · exact h
      · exact absurd hj (mid_waits hs hc hn inv hin hun j h)
    refine ⟨hjn, ?_⟩
    by_cases hji : j = i
    · subst hji; exact hy.stOp hi H
    · match f, H with
      | 0, H => exact absurd (hdone _ _ H j (ready_mono hj hji)) (by omega)
      | f + 1, H =>
        obtain ⟨hjun, oj, hoj, hall⟩ := mem_ready.1 hj
        have hnot : ∀ e ∈ oj.after, Region.binds .any e = true → e.on ≠ i := fun e he hb heq => by
          have h1 := hall e he hb
          rw [heq, getD_both hun] at h1
          cases h1
        have h2 := stOp_put hoj (hfree j oj hoj hji hjun hnot) (fun cs b => hsel i oi cs b hi) (fun cs b => hsel j oj cs b hoj) hy (H.2 j (ready_mono hj hji)).2
        refine stOp_mono (fun a' h3 => mid_first hi hsel hs hc hn hin hdone f (listed.setIfInBounds j true) a' (inv.set hj hjn) (fun k ok hk hki hku hno => hfree k ok hk hki ?_ hno) (ready_mono hr (Ne.symm hji)) h3.1 ?_) h2
        · by_cases hjk : j = k
          · subst hjk; exact hjun
          · rw [getD_set_ne true hjk] at hku; exact hku
        · rw [Array.setIfInBounds_comm _ _ hji]
          exact h3.2

theorem mid_lex {n : Nat} {T : Array Bool → Bool} {Lq : Act → Prop} (hsel : Region.noSelect ops = true) (hs : Region.sinkB .any ops n = true) (hc : behindB ops n = true) (hn : n < ops.size) (hT : ∀ listed, T listed = true → ∀ j ∈ Region.ready .any ops listed, n ≤ j) :
    ∀ (l : List Oper) (k : Nat) (listed : Array Bool) (a : Act), (∀ j, j < l.length → l[j]? = ops[k + j]?) → k + l.length = n → HeadInv .any ops n listed →
    lexTo ops T l.length k listed = true → wpStill P ops w Lq l a → wpAnyL P .any ops w n (fun listed' a' => T listed' = true ∧ Lq a') l.length listed a
  | [], k, listed, a, _, _, _, hB, h => ⟨hB, h⟩
  | o :: l, k, listed, a, hl, hk, inv, hB, h => by
    have h0 : ops[k]? = some o := by simpa using (hl 0 (by simp)).symm
    simp only [List.length_cons] at hk
    rw [List.length_cons, lexTo, Bool.and_eq_true, Bool.and_eq_true] at hB
    obtain ⟨⟨hr, hf⟩, hB'⟩ := hB
    have hr' : k ∈ Region.ready .any ops listed := by simpa using hr
    have hst : stOp P ops w k (wpStill P ops w Lq l) a := by unfold stOp; simp only [h0]; exact h
    obtain ⟨v, hy, hK⟩ := yieldsAt_of_stOp h0 hst
    exact mid_first h0 (Region.noSelect_spec hsel) hs hc hn (by omega) (fun listed' a' hL => hT listed' hL.1) l.length listed a inv (Region.free_spec h0 hf) hr' hy
      (mid_lex hsel hs hc hn hT l (k + 1) _ _ (fun j hj => by have := hl (j + 1) (by simp; omega); simpa [Nat.add_assoc, Nat.add_comm 1 j] using this) (by omega) (inv.set hr' (by omega)) hB' hK)

/-- the call in the middle: it returns, and what is behind it only reads -/
def MidCall (P : Program) (ops : Array Oper) (Q : Exit → Act → World → Prop) (o : Oper) (rest : List Oper) (a : Act) (w : World) : Prop :=
  Region.wanted o (yielded ops a.tmps) = true ∧ ∃ f args, (execOp a.eval o).run P w = .ok (.enter f args) w ∧
    Calls P f args w fun e w' => ∃ v, e = .returned v ∧ wpStill P ops w' (fun a' => Q .normal a' w') rest (a.put o.dst v)

theorem midCall_of {Q : Exit → Act → World → Prop} {o : Oper} {rest : List Oper} {a : Act} (hw : Region.wanted o (yielded ops a.tmps) = true) (f : FuncId) (args : Array Value) (hr : (execOp a.eval o).run P w = .ok (.enter f args) w)
    {v : Value} {R : World → Prop} (hc : Calls P f args w fun e w' => e = .returned v ∧ R w') (h : ∀ w', R w' → wpStill P ops w' (fun a' => Q .normal a' w') rest (a.put o.dst v)) : MidCall P ops Q o rest a w :=
  ⟨hw, f, args, hr, hc.mono fun _ w' hh => ⟨v, hh.1, h w' hh.2⟩⟩

theorem wp_region_mid {id : Nat} {Q : Exit → Act → World → Prop} {a : Act} {w : World} {l : List Oper} (n : Nat) (o : Oper) (hm : P.follows .mixedOrders = true) (hB : midB l.toArray n = true) (ho : l[n]? = some o)
    (h : wpStill P l.toArray { w with drawn := w.drawn + 1 } (fun a' => MidCall P l.toArray Q o (l.drop (n + 1)) a' { w with drawn := w.drawn + 1 }) (l.take n) a) : (Code.region id l.toArray true).wp P Q a w := by
  simp only [midB, Bool.and_eq_true, decide_eq_true_eq] at hB
  obtain ⟨⟨⟨⟨hsel, hn⟩, hs⟩, hc⟩, hlex⟩ := hB
  have hn' : n < l.length := by simpa using hn
  have htl : (l.take n).length = n := by simp; omega
  have hdl : (l.drop (n + 1)).length = l.toArray.size - n - 1 := by simp; omega
  have inv0 : HeadInv .any l.toArray n (Array.replicate l.toArray.size false) :=
    ⟨by simp, fun j oj _ hl => (by rw [getD_replicate_false] at hl; cases hl), fun t _ ht => getD_in (by simpa using ht) (getD_replicate_false _ _)⟩
  have hT : ∀ listed, midT l.toArray n (l.toArray.size - n - 1) listed = true → Region.ready .any l.toArray listed = [n] := fun listed hh => by
    simp only [midT, Bool.and_eq_true, decide_eq_true_eq] at hh; exact hh.1
  have H := mid_lex hsel hs hc hn (fun listed hh j hj => by rw [hT listed hh] at hj; simp at hj; omega) (l.take n) 0 _ a (fun j hj => by
    have hj' : j < n := by rw [htl] at hj; exact hj
    simp [hj']) (by simpa using htl) inv0 (by rw [htl]; exact hlex) h
  refine wp_region_any hm ?_
  have h2 := wpAny_of_head (Q' := Q) (g := l.toArray.size - n - 1 + 1) (fun listed a' (hL : midT l.toArray n (l.toArray.size - n - 1) listed = true ∧ _) => by
    obtain ⟨hL1, hw, f, args, hrun, hcall⟩ := hL
    have hrd := hT listed hL1
    simp only [midT, Bool.and_eq_true, decide_eq_true_eq] at hL1
    refine ⟨fun h1 => (by rw [hrd] at h1; cases h1), fun i hi => ?_⟩
    rw [hrd] at hi
    obtain rfl : i = n := by simpa using hi
    have h0 : l.toArray[i]? = some o := by simpa using ho
    unfold wpOp
    simp only [h0, hw, if_true]
    refine .inl ?_
    unfold Oper.wp
    rw [hrun, Oper.upon_enter]
    refine hcall.mono ?_
    rintro _ w' ⟨v, rfl, hst⟩
    refine wpAny_of_still (Q := fun a' => Q .normal a' w') (fun _ hq => hq) _ _ _ ?_
    have h3 := wpAnyS_lex (md := .any) hsel (l.drop (i + 1)) (i + 1) (listed.setIfInBounds i true) _ (fun j => by simp [List.getElem?_drop]) (by rw [hdl]; exact hL1.2) hst
    rw [hdl] at h3
    exact h3) _ _ _ H
  rw [htl, show n + (l.toArray.size - n - 1 + 1) = l.toArray.size by omega] at h2
  exact h2
end

end Go.Proofs.Ytcocljgafhpdaaa
end

section
namespace Go.Proofs.Ytcocljgafhpdaaa.valFields
open Go.RowKit Go.Sort Go.Maps

/-- the fields that came, each as it lies -/
def DCame (W : World) (a : Option Addr) (d : Array FC) : Prop := RepAt W All d ∧ (d.size = 0 ∨ ∃ b off, a = some ⟨b, off, none⟩ ∧ b < W.heap.size ∧ ∀ i (h : i < d.size), InAt W b (off + i * 7) (d[i]).enc)

theorem DCame.below {W W' : World} {a : Option Addr} {d : Array FC} (h : DCame W a d) (hb : Below W.heap.size W W') : DCame W' a d :=
  ⟨fun i hi => V.Is.below (h.1 i hi) hb, h.2.imp id fun ⟨b, off, e, hlt, hin⟩ => ⟨b, off, e, Nat.lt_of_lt_of_le hlt hb.size, fun i hi => (hin i hi).keep (hb.block b hlt)⟩⟩

theorem ofMap_d {W : World} {a : Option Addr} {d : Array FC} (h : DCame W a d) (c : Nat) (hd : d.size ≤ 20) (hsm : ∀ x ∈ d, x.v.sm) : Calls Try.prog 12 #[.slice a d.size c] W (OfMapP ((keptF d).map FC.fd) W) := by
  by_cases h0 : d.size = 0
  · obtain rfl : d = #[] := Array.eq_empty_of_size_eq_zero h0
    exact ofMap_none a c W
  · rcases h.2 with hd0 | ⟨b, off, rfl, hb, hin⟩
    · exact absurd hd0 h0
    · exact ofMap_some b off c d (by omega) hd W hb hin h.1 hsm

/-- x's box and the law's map -/
def S1 (w : World) (cs : Array Value) (mb : Nat) (l : List FC) (W : World) : Prop := XB w cs W ∧ ∃ n, n ≤ l.length ∧ MapAt 9 W mb n (lastMap l) ∧ w.heap.size ≤ mb

theorem S1.below {w W W' : World} {cs : Array Value} {mb : Nat} {l : List FC} (h : S1 w cs mb l W) (hb : Below W.heap.size W W') : S1 w cs mb l W' := by
  obtain ⟨h1, n, hn, h2, h3⟩ := h
  exact ⟨h1.below hb, n, hn, h2.kept (hb.block mb h2.lt), h3⟩

/-- .. and the map that OfMap made -/
def S2 (w : World) (cs : Array Value) (mb m0 : Nat) (l : List FC) (ma : Option Addr) (n mc : Nat) (kf : List Fd) (W : World) : Prop :=
  S1 w cs mb l W ∧ Box W m0 26 #[.int .i64 5, .bool false, .int .i64 0, .string ⟨#[]⟩, .slice none 0 0, .slice ma n mc] ∧ FAt W All kf (.slice ma n mc)

theorem S2.below {w W W' : World} {cs : Array Value} {mb m0 : Nat} {l : List FC} {ma : Option Addr} {n mc : Nat} {kf : List Fd} (h : S2 w cs mb m0 l ma n mc kf W) (hb : Below W.heap.size W W') : S2 w cs mb m0 l ma n mc kf W' :=
  ⟨h.1.below hb, (hb.block _ h.2.1.lt).trans h.2.1, h.2.2.move (fun b _ hlt => ⟨trivial, hb.block b hlt⟩) hb.size⟩


/-- .. and the value that was asked for, and the look-up's -/
def S3 (w : World) (cs : Array Value) (mb m0 : Nat) (l : List FC) (ma : Option Addr) (n mc : Nat) (kf : List Fd) (q0 : Nat) (gv : V) (la : Option Addr) (lc : Nat) (fa : Option Addr) (fc : Nat) (W : World) : Prop :=
  S2 w cs mb m0 l ma n mc kf W ∧ Box W q0 26 #[.int .i64 gv.kind, .bool gv.yes, .int .i64 gv.num, .string gv.text, .slice la gv.list.length lc, .slice fa gv.fields.length fc] ∧ gv.Is W (.slice la gv.list.length lc) (.slice fa gv.fields.length fc)

theorem S3.below {w W W' : World} {cs : Array Value} {mb m0 : Nat} {l : List FC} {ma : Option Addr} {n mc : Nat} {kf : List Fd} {q0 : Nat} {gv : V} {la : Option Addr} {lc : Nat} {fa : Option Addr} {fc : Nat} (h : S3 w cs mb m0 l ma n mc kf q0 gv la lc fa fc W) (hb : Below W.heap.size W W') : S3 w cs mb m0 l ma n mc kf q0 gv la lc fa fc W' :=
  ⟨h.1.below hb, (hb.block _ h.2.1.lt).trans h.2.1, h.2.2.below hb⟩

/-- a map value's box with its fields -/
def MB (W : World) (b : Nat) (a : Option Addr) (n c : Nat) (kf : List Fd) : Prop :=
  Box W b 26 #[.int .i64 5, .bool false, .int .i64 0, .string ⟨#[]⟩, .slice none 0 0, .slice a n c] ∧ FAt W All kf (.slice a n c)

theorem MB.below {W W' : World} {b : Nat} {a : Option Addr} {n c : Nat} {kf : List Fd} (h : MB W b a n c kf) (hb : Below W.heap.size W W') : MB W' b a n c kf :=
  ⟨(hb.block _ h.1.lt).trans h.1, h.2.move (fun b _ hlt => ⟨trivial, hb.block b hlt⟩) hb.size⟩

theorem MB.new {W : World} {a : Option Addr} {n c : Nat} {kf : List Fd} (h : FAt W All kf (.slice a n c)) : MB (W.alloc (.cells #[.int .i64 5, .bool false, .int .i64 0, .string ⟨#[]⟩, .slice none 0 0, .slice a n c] 26)) W.heap.size a n c kf :=
  ⟨Box.new W _ _, h.move (fun b _ hlt => ⟨trivial, ((Below.refl _ W).alloc (Nat.le_refl _) _).block b hlt⟩) ((Below.refl _ W).alloc (Nat.le_refl _) _).size⟩

theorem ranges_below {W W' : World} {mb it n cnt : Nat} {D : DataW Value} {left : Lit → Bool} (h : W.ranges Try.prog 9 RV mb it n D left cnt) (hb : Below W.heap.size W W') : W'.ranges Try.prog 9 RV mb it n D left cnt :=
  h.kept (w' := W') (row := none) ⟨hb.os, hb.tape, hb.output, hb.size, fun q hq _ => hb.block q hq⟩ (fun e => by cases e) (fun e => by cases e)

theorem law_s : Keyed Try.prog 9 := Maps.string_keyed Try.underlying9

/-- an entry of the law's map that has come -/
theorem entry_kept {d : Array FC} {x : ByteArray} {cv : Value} {kl : Lit} {y : DataW Value × List MemPlace} (hkey : keyOf Try.prog 9 (.string x) = some kl) (hR : RV cv = some y) (hat : ∀ zd, (dm (lastMap d.toList)).atKey kl zd = y.1) :
    ∃ p ∈ keptF d, p.nm = x ∧ cv = vagg p := by
  obtain ⟨s, e1, rfl, hs⟩ := Go.WideMaps.string_of_keyOf Try.underlying9 hkey
  obtain rfl : x = s := by injection e1
  obtain rfl : y = (.held cv, []) := (Option.some.inj hR).symm
  have h1 := hat .nil
  rw [dm_at] at h1
  rcases got_kept d x with ⟨p, hp, e, _, hg⟩ | ⟨_, hg⟩
  · rw [hg] at h1
    exact ⟨p, hp, e, (DataW.held.inj h1).symm⟩
  · rw [hg] at h1
    cases h1

theorem get_some {W : World} {kf : List Fd} {ma : Option Addr} {n mc : Nat} (hfa : FAt W All kf (.slice ma n mc)) (hsm : ∀ p ∈ kf, p.2.sm) (hlen : kf.length ≤ 100000) {nm : ByteArray} {gv : V} (hg : getF kf nm = some gv) :
    Calls Try.prog 14 #[.agg #[.int .i64 5, .bool false, .int .i64 0, .string ⟨#[]⟩, .slice none 0 0, .slice ma n mc], .string nm] W fun e w' =>
      ∃ ga gc gb gd, e = .returned (.tuple #[.agg #[.int .i64 gv.kind, .bool gv.yes, .int .i64 gv.num, .string gv.text, .slice ga gv.list.length gc, .slice gb gv.fields.length gd], .bool true]) ∧ gv.Is w' (.slice ga gv.list.length gc) (.slice gb gv.fields.length gd) ∧ Below W.heap.size W w' := by
  refine (get_u hfa hsm hlen nm).mono ?_
  unfold getV
  rw [hg]
  rintro e w' ⟨lv, fv, rfl, his, hb⟩
  change gv.Is w' lv fv at his
  obtain ⟨⟨ga, gc, rfl⟩, ⟨gb, gd, rfl⟩, _, _⟩ := his.len
  exact ⟨ga, gc, gb, gd, rfl, his, hb⟩

theorem get_none {W : World} {kf : List Fd} {ma : Option Addr} {n mc : Nat} (hfa : FAt W All kf (.slice ma n mc)) (hsm : ∀ p ∈ kf, p.2.sm) (hlen : kf.length ≤ 100000) {nm : ByteArray} (hg : getF kf nm = none) :
    Calls Try.prog 14 #[.agg #[.int .i64 5, .bool false, .int .i64 0, .string ⟨#[]⟩, .slice none 0 0, .slice ma n mc], .string nm] W fun e w' =>
      e = .returned (.tuple #[.agg #[.int .i64 0, .bool false, .int .i64 0, .string ⟨#[]⟩, .slice none 0 0, .slice none 0 0], .bool false]) ∧ Below W.heap.size W w' := by
  refine (get_map false 0 ⟨#[]⟩ none 0 0 kf nm (.slice ma n mc) W hsm hlen hfa).mono ?_
  rintro e w' ⟨hb, h⟩
  rcases h with ⟨x, lv, fv, hg', rfl, hat⟩ | ⟨_, rfl⟩
  · rw [hg] at hg'; cases hg'
  · exact ⟨rfl, hb⟩

/-- Get of a name that may be there or not, and the look-up -/
theorem get_o {W : World} {kf : List Fd} {ma : Option Addr} {n mc : Nat} (hfa : FAt W All kf (.slice ma n mc)) (hsm : ∀ p ∈ kf, p.2.sm) (hlen : kf.length ≤ 100000) (nm : ByteArray) :
    Calls Try.prog 14 #[.agg #[.int .i64 5, .bool false, .int .i64 0, .string ⟨#[]⟩, .slice none 0 0, .slice ma n mc], .string nm] W fun e w' =>
      ∃ ga gc gb gd, e = .returned (.tuple #[.agg #[.int .i64 (getV kf nm).kind, .bool (getV kf nm).yes, .int .i64 (getV kf nm).num, .string (getV kf nm).text, .slice ga (getV kf nm).list.length gc, .slice gb (getV kf nm).fields.length gd], .bool (getF kf nm).isSome]) ∧ (getV kf nm).Is w' (.slice ga (getV kf nm).list.length gc) (.slice gb (getV kf nm).fields.length gd) ∧ Below W.heap.size W w' := by
  refine (get_u hfa hsm hlen nm).mono ?_
  rintro e w' ⟨lv, fv, rfl, his, hb⟩
  obtain ⟨⟨ga, gc, rfl⟩, ⟨gb, gd, rfl⟩, _, _⟩ := his.len
  exact ⟨ga, gc, gb, gd, rfl, his, hb⟩

theorem off_sm {kf : List Fd} {nm : ByteArray} (h : ∀ p ∈ kf, p.2.sm) : ∀ p ∈ offF kf nm, p.2.sm := fun p hp => h p (List.mem_filter.1 hp).1
theorem off_len (kf : List Fd) (nm : ByteArray) : (offF kf nm).length ≤ kf.length := List.length_filter_le _ _
theorem ins_sm {kf : List Fd} {i : Nat} {q : Fd} (h : ∀ p ∈ kf, p.2.sm) (hq : q.2.sm) : ∀ p ∈ insF kf i q, p.2.sm := fun p hp => by
  unfold insF at hp
  rcases List.mem_append.1 hp with h1 | h1
  · exact h p (List.mem_of_mem_take h1)
  · rcases List.mem_cons.1 h1 with rfl | h1
    · exact hq
    · exact h p (List.mem_of_mem_drop h1)
theorem ins_len (kf : List Fd) (i : Nat) (q : Fd) : (insF kf i q).length ≤ kf.length + 1 := by
  unfold insF
  simp only [List.length_append, List.length_cons, List.length_take, List.length_drop]
  omega

theorem S2.with {w W : World} {cs : Array Value} {mb m0 : Nat} {l : List FC} {ma : Option Addr} {n mc : Nat} {kf : List Fd} (h : S2 w cs mb m0 l ma n mc kf W) (nm : ByteArray) {x : V} {xl xf : Value} (hx : x.Is w xl xf) (hxs : x.sm) (hsm : ∀ p ∈ kf, p.2.sm) (hlen : kf.length ≤ 20) :
    Calls Try.prog 15 #[.agg #[.int .i64 5, .bool false, .int .i64 0, .string ⟨#[]⟩, .slice none 0 0, .slice ma n mc], .string nm, .agg #[.int .i64 x.kind, .bool x.yes, .int .i64 x.num, .string x.text, xl, xf]] W fun e w' =>
      ∃ wa wn wc wkf, e = .returned (.agg #[.int .i64 5, .bool false, .int .i64 0, .string ⟨#[]⟩, .slice none 0 0, .slice wa wn wc]) ∧ MB (w'.alloc (.cells #[.int .i64 5, .bool false, .int .i64 0, .string ⟨#[]⟩, .slice none 0 0, .slice wa wn wc] 26)) w'.heap.size wa wn wc wkf ∧ (∃ i, wkf = insF (offF kf nm) i (nm, x)) ∧ Below W.heap.size W w' := by
  refine (with_map false 0 ⟨#[]⟩ none 0 0 kf nm _ W hsm (by omega) h.2.2 x xl xf (hx.below h.1.1.1) hxs).mono ?_
  rintro e w' ⟨hb, fv, i, _, rfl, hrow⟩
  have hf : FAt w' All (insF (offF kf nm) i (nm, x)) fv := hrow.at_.move (fun b _ _ => ⟨trivial, rfl⟩) (Nat.le_refl _)
  obtain ⟨wa, wc, rfl, _, _, _⟩ := id hf
  exact ⟨wa, _, wc, _, rfl, MB.new hf, ⟨i, rfl⟩, hb⟩

theorem S2.without {w W : World} {cs : Array Value} {mb m0 : Nat} {l : List FC} {ma : Option Addr} {n mc : Nat} {kf : List Fd} (h : S2 w cs mb m0 l ma n mc kf W) (nm : ByteArray) (hsm : ∀ p ∈ kf, p.2.sm) (hlen : kf.length ≤ 20) :
    Calls Try.prog 16 #[.agg #[.int .i64 5, .bool false, .int .i64 0, .string ⟨#[]⟩, .slice none 0 0, .slice ma n mc], .string nm] W fun e w' =>
      ∃ wa wn wc wkf, e = .returned (.agg #[.int .i64 5, .bool false, .int .i64 0, .string ⟨#[]⟩, .slice none 0 0, .slice wa wn wc]) ∧ MB (w'.alloc (.cells #[.int .i64 5, .bool false, .int .i64 0, .string ⟨#[]⟩, .slice none 0 0, .slice wa wn wc] 26)) w'.heap.size wa wn wc wkf ∧ wkf = offF kf nm ∧ Below W.heap.size W w' := by
  refine (without_map false 0 ⟨#[]⟩ none 0 0 kf nm _ W hsm (by omega) h.2.2).mono ?_
  rintro e w' ⟨hb, fv, rfl, hrow⟩
  have hf : FAt w' All (offF kf nm) fv := hrow.at_.move (fun b _ _ => ⟨trivial, rfl⟩) (Nat.le_refl _)
  obtain ⟨wa, wc, rfl, _, _, _⟩ := id hf
  exact ⟨wa, _, wc, _, rfl, MB.new hf, rfl, hb⟩

theorem few_parts' {k : Int} {y : Bool} {n : Int} {t : ByteArray} {l : List V} {f : List Fd} {d : Int} (h : (V.mk k y n t l f).few d = true) :
    d ≤ 6 ∧ l.length ≤ 8 ∧ f.length ≤ 8 ∧ t.size ≤ 200 ∧ fewL l (d + 1) = true ∧ fewF f (d + 1) = true := by
  rw [V.few] at h
  simpa only [Bool.and_eq_true, decide_eq_true_eq] using h

theorem few_sm' : ∀ (N : Nat) (v : V) (d : Int), v.dep ≤ N → v.few d = true → v.sm
  | 0, v, d, hd, _ => by
    cases v
    rw [V.dep] at hd
    omega
  | N + 1, .mk k y n t l f, d, hd, h => by
    have hdl : ∀ x ∈ l, x.dep ≤ N := fun x hx => by have := dep_list (v := .mk k y n t l f) hx; omega
    have hdf : ∀ p ∈ f, p.2.dep ≤ N := fun p hp => by have := dep_fields (v := .mk k y n t l f) hp; omega
    obtain ⟨_, h2, h3, _, h5, h6⟩ := few_parts' h
    exact ⟨⟨by omega, by omega⟩, smL_iff.2 fun x hx => few_sm' N x _ (hdl x hx) (fewL_iff.1 h5 x hx), smF_iff.2 fun p hp => few_sm' N p.2 _ (hdf p hp) (fewF_iff.1 h6 p hp).2⟩

end Go.Proofs.Ytcocljgafhpdaaa.valFields
end
