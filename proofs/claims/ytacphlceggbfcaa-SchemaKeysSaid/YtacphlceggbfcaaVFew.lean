/-
  mailbaglaw02.Few.
-/
import Derived.Test.YtacphlceggbfcaaValHead
namespace Go.Proofs.Ytacphlceggbfcaa
open Go.RowKit

mutual
/-- has a value few parts, so deep in others? -/
def V.few : V → Int → Bool
  | .mk _ _ _ t l f, d => decide (d ≤ 6) && (decide (l.length ≤ 8) && (decide (f.length ≤ 8) && (decide (t.size ≤ 200) && (fewL l (d + 1) && fewF f (d + 1)))))
def fewL : List V → Int → Bool
  | [], _ => true
  | v :: l, d => v.few d && fewL l d
def fewF : List (ByteArray × V) → Int → Bool
  | [], _ => true
  | p :: l, d => (decide (p.1.size ≤ 40) && V.few p.2 d) && fewF l d
end

theorem fewL_iff {l : List V} {d : Int} : fewL l d = true ↔ ∀ v ∈ l, v.few d = true := by
  induction l with
  | nil => simp [fewL]
  | cons v l ih => simp [fewL, ih]
theorem fewF_iff {l : List Fd} {d : Int} : fewF l d = true ↔ ∀ p ∈ l, p.1.size ≤ 40 ∧ p.2.few d = true := by
  induction l with
  | nil => simp [fewF]
  | cons v l ih => simp only [fewF, ih, Bool.and_eq_true, decide_eq_true_eq, List.mem_cons, forall_eq_or_imp]

/-- a right value of few parts is short enough for lay -/
theorem fit_of_few : ∀ (N : Nat) (v : V) (d : Int) (r : Int), v.dep ≤ N → v.few d = true → v.right r = true → v.n64 → v.fit
  | 0, v, d, r, hd, _, _, _ => by
    cases v
    rw [V.dep] at hd
    omega
  | N + 1, .mk k y n t l f, d, r, hd, h, hr, hn => by
    have hdl : ∀ x ∈ l, x.dep ≤ N := fun x hx => by have := dep_list (v := .mk k y n t l f) hx; omega
    have hdf : ∀ p ∈ f, p.2.dep ≤ N := fun p hp => by have := dep_fields (v := .mk k y n t l f) hp; omega
    rw [V.few] at h
    simp only [Bool.and_eq_true, decide_eq_true_eq] at h
    obtain ⟨_, _, _, h4, h5, h6⟩ := h
    rw [V.right, Bool.and_eq_true, Bool.and_eq_true, Bool.and_eq_true, decide_eq_true_eq, plain_iff] at hr
    obtain ⟨⟨⟨_, ⟨h0, h1⟩, _⟩, hL⟩, hF⟩ := hr
    obtain ⟨n1, n2, n3⟩ := hn
    refine ⟨⟨h0, h1⟩, n1, by omega, fitL_iff.2 fun x hx => ?_, fitF_iff.2 fun p hp => ?_⟩
    · exact fit_of_few N x _ _ (hdl x hx) (fewL_iff.1 h5 x hx) (rightL_iff.1 hL x hx) (n64L_iff.1 n2 x hx)
    · obtain ⟨g1, g2⟩ := fewF_iff.1 h6 p hp
      obtain ⟨i, hi, rfl⟩ := List.getElem_of_mem hp
      exact ⟨by omega, fit_of_few N _ _ _ (hdf _ hp) g2 (rightF_iff.1 hF i hi).1 (n64F_iff.1 n3 _ hp)⟩

def FewOK (N : Nat) : Prop := ∀ (v : V) (d : Int) (lv fv : Value) (w : World), v.dep ≤ N → 0 ≤ d → d ≤ 1000 → v.Is w lv fv →
  Calls Try.prog 10 #[.agg #[.int .i64 v.kind, .bool v.yes, .int .i64 v.num, .string v.text, lv, fv], .int .i64 d] w fun e w' => e = .returned (.bool (v.few d)) ∧ Below w.heap.size w w'

set_option maxHeartbeats 4000000 in
set_option maxRecDepth 100000 in
theorem few_step (N : Nat) (ih : FewOK N) : FewOK (N + 1) := by
  intro v d lv fv w hdep hd0 hd1 his
  obtain ⟨⟨a, c, rfl⟩, ⟨a', c', rfl⟩, hLb, hFb⟩ := his.len
  obtain ⟨k, y, n, t, l, f⟩ := v
  have hdl : ∀ x ∈ l, x.dep ≤ N := fun x hx => by have := dep_list (v := .mk k y n t l f) hx; omega
  have hdf : ∀ p ∈ f, p.2.dep ≤ N := fun p hp => by have := dep_fields (v := .mk k y n t l f) hp; omega
  have HDL := Lib.hid hdl
  have HDF := Lib.hid hdf
  clear hdl hdf hdep
  simp only [V.kind, V.yes, V.num, V.text, V.list, V.fields] at *
  have hr : Hid ((V.mk k y n t l f).few d = (decide (d ≤ 6) && (decide (l.length ≤ 8) && (decide (f.length ≤ 8) && (decide (t.size ≤ 200) && (fewL l (d + 1) && fewF f (d + 1))))))) := Lib.hid rfl
  have hb0 := ((Below.refl _ w).alloc (Nat.le_refl _) (.cells #[.int .i64 k, .bool y, .int .i64 n, .string t, .slice a l.length c, .slice a' f.length c'] 26))
  by_cases h1 : 6 < d
  · have hE : Hid ((V.mk k y n t l f).few d = false) := Lib.hid (by rw [hr.out, decide_eq_false (by omega)]; rfl)
    go_enter Try.func10, Try.ntmps10
    go_wp2
    go_ret
    exact ⟨ret_bool2 hE.out.symm, hb0⟩
  by_cases h2 : 8 < l.length
  · have hE : Hid ((V.mk k y n t l f).few d = false) := Lib.hid (by rw [hr.out, decide_eq_false (p := l.length ≤ 8) (by omega)]; simp)
    have h2' : (8 : Int) < (l.length : Int) := by omega
    go_enter Try.func10, Try.ntmps10
    go_wp2
    go_ret
    exact ⟨ret_bool2 hE.out.symm, hb0⟩
  have h2' : ¬ (8 : Int) < (l.length : Int) := by omega
  by_cases h3 : 8 < f.length
  · have hE : Hid ((V.mk k y n t l f).few d = false) := Lib.hid (by rw [hr.out, decide_eq_false (p := f.length ≤ 8) (by omega)]; simp)
    have h3' : (8 : Int) < (f.length : Int) := by omega
    go_enter Try.func10, Try.ntmps10
    go_wp2
    go_ret
    exact ⟨ret_bool2 hE.out.symm, hb0⟩
  have h3' : ¬ (8 : Int) < (f.length : Int) := by omega
  by_cases h4 : 200 < t.size
  · have hE : Hid ((V.mk k y n t l f).few d = false) := Lib.hid (by rw [hr.out, decide_eq_false (p := t.size ≤ 200) (by omega)]; simp)
    have h4' : (200 : Int) < (t.size : Int) := by omega
    go_enter Try.func10, Try.ntmps10
    go_wp2
    go_ret
    exact ⟨ret_bool2 hE.out.symm, hb0⟩
  have h4' : ¬ (200 : Int) < (t.size : Int) := by omega
  have hr2 : Hid ((V.mk k y n t l f).few d = (fewL l (d + 1) && fewF f (d + 1))) := Lib.hid (by rw [hr.out, decide_eq_true (p := d ≤ 6) (by omega), decide_eq_true (p := l.length ≤ 8) (by omega), decide_eq_true (p := f.length ≤ 8) (by omega), decide_eq_true (p := t.size ≤ 200) (by omega)]; simp)
  have hnl : ∀ (q : Nat) (h : q < l.length), l[q].few (d + 1) = false → Hid ((V.mk k y n t l f).few d = false) := fun q h e => Lib.hid (by
    rw [hr2.out, show fewL l (d + 1) = false by
      rw [Bool.eq_false_iff]; intro hh; rw [fewL_iff.1 hh _ (List.getElem_mem h)] at e; cases e]
    simp)
  have HNL := Lib.hid hnl
  have hnf : ∀ (q : Nat) (h : q < f.length), ¬ ((f[q]).1.size ≤ 40 ∧ (f[q]).2.few (d + 1) = true) → Hid ((V.mk k y n t l f).few d = false) := fun q h e => Lib.hid (by
    rw [hr2.out, show fewF f (d + 1) = false by
      rw [Bool.eq_false_iff]; intro hh; exact e (fewF_iff.1 hh _ (List.getElem_mem h))]
    simp)
  have HNF := Lib.hid hnf
  clear hnl hnf hr h2 h3 h4
  go_enter Try.func10, Try.ntmps10
  go_wp2_with fail
  go_loopw [32] (fun i wr => ∃ j : Nat, j ≤ l.length ∧ i = .int .i64 j ∧ Below w.heap.size w wr ∧ (∀ o : Nat, wr.cell? ⟨w.heap.size, o, none⟩ = (w.alloc (.cells #[.int .i64 k, .bool y, .int .i64 n, .string t, .slice a l.length c, .slice a' f.length c'] 26)).cell? ⟨w.heap.size, o, none⟩) ∧ w.heap.size < wr.heap.size ∧ ∀ (q : Nat) (h : q < l.length), q < j → l[q].few (d + 1) = true) (fun i _ => l.length - (intOf i).toNat)
  case atStart => exact ⟨0, Nat.zero_le _, rfl, hb0, fun _ => rfl, by simp, fun q h hq => by omega⟩
  case round =>
    obtain ⟨j, hj, rfl, hbr, hcells, hlt0, hall⟩ := hrel
    have hzr := hbr.size
    have HALL := Lib.hid hall
    have HC := Lib.hid hcells
    clear hall hcells
    by_cases hjl : j < l.length
    · obtain ⟨b, off, cc, lv', fv', e1, hbl, hin, hel⟩ := (his.below hbr).elem (i := j) hjl
      injection e1 with e1 e3 e2
      clear e3
      subst e1 e2
      have hxd := HDL.out _ (List.getElem_mem hjl)
      obtain ⟨q0, q1, q2, q3, q4, q5⟩ := hin.six
      have hno := HNL.out j hjl
      simp only [V.list] at q0 q1 q2 q3 q4 q5 hel
      have hall' : l[j].few (d + 1) = true → Hid (∀ (q : Nat) (h : q < l.length), q < j + 1 → l[q].few (d + 1) = true) := fun e => Lib.hid (fun q h hq => by
        by_cases e2 : q = j
        · subst e2; exact e
        · exact HALL.out q h (by omega))
      generalize l[j] = x at q0 q1 q2 q3 q4 q5 hel hxd hno hall'
      obtain ⟨⟨ax, cx, rfl⟩, ⟨ax', cx', rfl⟩, _, _⟩ := hel.len
      have hjl' : (j : Int) < (l.length : Int) := by omega
      have hb1 : Below wr.heap.size wr (wr.alloc (.cells #[.int .i64 x.kind, .bool x.yes, .int .i64 x.num, .string x.text, .slice ax x.list.length cx, .slice ax' x.fields.length cx'] 26)) := (Below.refl _ _).alloc (Nat.le_refl _) _
      have hcall := ih x (d + 1) _ _ _ hxd (by omega) (by omega) (V.Is.below hel hb1)
      clear hin hel
      cases hx : x.few (d + 1)
      · rw [hx] at hcall
        have HF := hno hx
        clear hno hall' hx
        go_wp2_with fail
        refine hcall.mono ?_
        rintro e w2 ⟨rfl, hb2'⟩
        have hb2 := hbr.trans ((hb1.trans (hb2'.mono (by simp))).mono hzr)
        clear hcall hb2'
        go_wp2
        go_ret
        exact ⟨ret_bool2 HF.out.symm, hb2⟩
      · rw [hx] at hcall
        have HT := hall' hx
        clear hno hall' hx
        go_wp2_with fail
        refine hcall.mono ?_
        rintro e w2 ⟨rfl, hb2'⟩
        have hb21 := hb1.trans (hb2'.mono (by simp))
        have hb2 := hbr.trans (hb21.mono hzr)
        have HC2 : Hid (∀ o : Nat, w2.cell? ⟨w.heap.size, o, none⟩ = (w.alloc (.cells #[.int .i64 k, .bool y, .int .i64 n, .string t, .slice (some ⟨b, off, none⟩) l.length c, .slice a' f.length c'] 26)).cell? ⟨w.heap.size, o, none⟩) := Lib.hid (fun o => (hb21.cell (p := ⟨w.heap.size, o, none⟩) hlt0).trans (HC.out o))
        have hlt2 : w.heap.size < w2.heap.size := Nat.lt_of_lt_of_le hlt0 hb21.size
        clear hcall hb2' hb21
        go_wp2
        go_roundw
        case rel => exact ⟨j + 1, by omega, by go_num, hb2, HC2.out, hlt2, HT.out⟩
        case measure => simp [intOf]; omega
    · have hge : ¬ (j : Int) < (l.length : Int) := by omega
      have hL : Hid (fewL l (d + 1) = true) := Lib.hid (fewL_iff.2 fun x hx => by
        obtain ⟨q, hq, rfl⟩ := List.getElem_of_mem hx
        exact HALL.out q hq (by omega))
      have hcf2 : wr.cell? ⟨w.heap.size, 5, none⟩ = some (.slice a' f.length c') := by rw [HC.out 5]; simp
      clear hjl HNL HALL HC
      go_wp2
      go_loopw [45] (fun i wr => ∃ j : Nat, j ≤ f.length ∧ i = .int .i64 j ∧ Below w.heap.size w wr ∧ ∀ (q : Nat) (h : q < f.length), q < j → (f[q]).1.size ≤ 40 ∧ (f[q]).2.few (d + 1) = true) (fun i _ => f.length - (intOf i).toNat)
      case atStart => exact ⟨0, Nat.zero_le _, rfl, hbr, fun q h hq => by omega⟩
      case round =>
        clear hbr hzr hcf2 hge hj hlt0
        obtain ⟨j, hj, rfl, hbr, hall⟩ := hrel
        have hzr := hbr.size
        have HALL := Lib.hid hall
        clear hall
        by_cases hjl : j < f.length
        · obtain ⟨b, off, cc, e1, hbl, hFC⟩ := (his.below hbr).fcells (by show 0 < f.length; omega)
          injection e1 with e1 e3 e2
          clear e3
          subst e1 e2
          simp only [V.fields] at hFC
          obtain ⟨lv', fv', hin, (hel : (f[j]).2.Is wr lv' fv')⟩ := hFC.get hjl
          have hxd := HDF.out _ (List.getElem_mem hjl)
          obtain ⟨q0, q1, q2, q3, q4, q5, q6⟩ := hin.seven
          have hno := HNF.out j hjl
          have hall' : (f[j]).1.size ≤ 40 ∧ (f[j]).2.few (d + 1) = true → Hid (∀ (q : Nat) (h : q < f.length), q < j + 1 → (f[q]).1.size ≤ 40 ∧ (f[q]).2.few (d + 1) = true) := fun g1 => Lib.hid (fun q h hq => by
            by_cases e2 : q = j
            · subst e2; exact g1
            · exact HALL.out q h (by omega))
          have hjl' : (j : Int) < (f.length : Int) := by omega
          generalize (f[j]).1 = nm at q0 hno hall'
          generalize (f[j]).2 = x at q1 q2 q3 q4 q5 q6 hel hxd hno hall'
          obtain ⟨⟨ax, cx, rfl⟩, ⟨ax', cx', rfl⟩, _, _⟩ := hel.len
          have hb1 : Below wr.heap.size wr (wr.alloc (.cells #[.string nm, .int .i64 x.kind, .bool x.yes, .int .i64 x.num, .string x.text, .slice ax x.list.length cx, .slice ax' x.fields.length cx'] 68)) := (Below.refl _ _).alloc (Nat.le_refl _) _
          have hb1w := hbr.trans (hb1.mono hzr)
          clear hin hFC
          by_cases hn : 40 < nm.size
          · have hn' : (40 : Int) < (nm.size : Int) := by omega
            have HF := hno (by omega)
            clear hno hall' hel
            go_wp2
            go_ret
            exact ⟨ret_bool2 HF.out.symm, hb1w⟩
          · have hn' : ¬ (40 : Int) < (nm.size : Int) := by omega
            have hcall := ih x (d + 1) _ _ _ hxd (by omega) (by omega) (V.Is.below hel hb1)
            clear hel
            cases hx : x.few (d + 1)
            · rw [hx] at hcall
              have HF := hno (by rw [hx]; simp)
              clear hno hall' hx
              go_wp2_with fail
              refine hcall.mono ?_
              rintro e w2 ⟨rfl, hb2'⟩
              have hb2 := hbr.trans ((hb1.trans (hb2'.mono (by simp))).mono hzr)
              clear hcall hb2'
              go_wp2
              go_ret
              exact ⟨ret_bool2 HF.out.symm, hb2⟩
            · rw [hx] at hcall
              have HT := hall' ⟨by omega, hx⟩
              clear hno hall' hx
              go_wp2_with fail
              refine hcall.mono ?_
              rintro e w2 ⟨rfl, hb2'⟩
              have hb2 := hbr.trans ((hb1.trans (hb2'.mono (by simp))).mono hzr)
              clear hcall hb2'
              go_wp2
              go_roundw
              case rel => exact ⟨j + 1, by omega, by go_num, hb2, HT.out⟩
              case measure => simp [intOf]; omega
        · have hge : ¬ (j : Int) < (f.length : Int) := by omega
          have hF : Hid (fewF f (d + 1) = true) := Lib.hid (fewF_iff.2 fun p hp => by
            obtain ⟨q, hq, rfl⟩ := List.getElem_of_mem hp
            exact HALL.out q hq (by omega))
          clear hjl HNF HALL
          go_wp2
          go_ret
          exact ⟨ret_bool2 (by rw [hr2.out, hL.out, hF.out]; rfl), hbr⟩

theorem few_all : ∀ N, FewOK N
  | 0 => fun v d lv fv w hd _ _ _ => by
    cases v
    rw [V.dep] at hd
    omega
  | N + 1 => few_step N (few_all N)

theorem few_any (v : V) (lv fv : Value) (w : World) (h : v.Is w lv fv) :
    Calls Try.prog 10 #[.agg #[.int .i64 v.kind, .bool v.yes, .int .i64 v.num, .string v.text, lv, fv], .int .i64 0] w fun e w' => e = .returned (.bool (v.few 0)) ∧ Below w.heap.size w w' :=
  few_all v.dep v 0 lv fv w (Nat.le_refl _) (by omega) (by omega) h

end Go.Proofs.Ytacphlceggbfcaa
