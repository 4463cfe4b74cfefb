/-
  val's rightWithin and Right.
-/
import Derived.Test.YtacphlceggbfcaaValRight
import Derived.Deep.QuietTactic
import Derived.BigQuiet
import Derived.Deep.RegionHeld3
import Derived.Test.YtacphlceggbfcaaStill
namespace Go.Proofs.Ytacphlceggbfcaa
open Go.RowKit

attribute [local irreducible] wpStill

/-- a value's six cells, each -/
theorem InAt.six {w : World} {b off : Nat} {v : V} {lv fv : Value} (h : InAt w b off (v.cells lv fv)) :
    w.cell? ⟨b, off, none⟩ = some (.int .i64 v.kind) ∧ w.cell? ⟨b, off + 1, none⟩ = some (.bool v.yes) ∧ w.cell? ⟨b, off + 2, none⟩ = some (.int .i64 v.num) ∧
    w.cell? ⟨b, off + 3, none⟩ = some (.string v.text) ∧ w.cell? ⟨b, off + 4, none⟩ = some lv ∧ w.cell? ⟨b, off + 5, none⟩ = some fv :=
  ⟨h 0 _ rfl, h 1 _ rfl, h 2 _ rfl, h 3 _ rfl, h 4 _ rfl, h 5 _ rfl⟩

theorem InAt.seven {w : World} {b off : Nat} {n : ByteArray} {v : V} {lv fv : Value} (h : InAt w b off (.string n :: v.cells lv fv)) :
    w.cell? ⟨b, off, none⟩ = some (.string n) ∧ w.cell? ⟨b, off + 1, none⟩ = some (.int .i64 v.kind) ∧ w.cell? ⟨b, off + 2, none⟩ = some (.bool v.yes) ∧ w.cell? ⟨b, off + 3, none⟩ = some (.int .i64 v.num) ∧
    w.cell? ⟨b, off + 4, none⟩ = some (.string v.text) ∧ w.cell? ⟨b, off + 5, none⟩ = some lv ∧ w.cell? ⟨b, off + 6, none⟩ = some fv :=
  ⟨h 0 _ rfl, h 1 _ rfl, h 2 _ rfl, h 3 _ rfl, h 4 _ rfl, h 5 _ rfl, h 6 _ rfl⟩

def RW (N : Nat) : Prop := ∀ (v : V) (d : Int) (lv fv : Value) (w : World), v.dep ≤ N → -1 ≤ d → d ≤ 1000 → v.Is w lv fv →
  Calls Try.prog 78 #[.agg #[.int .i64 v.kind, .bool v.yes, .int .i64 v.num, .string v.text, lv, fv], .int .i64 d] w fun e w' => e = .returned (.bool (v.right d)) ∧ Below w.heap.size w w'

set_option maxHeartbeats 4000000 in
set_option maxRecDepth 100000 in
theorem rw_step (N : Nat) (ih : RW N) : RW (N + 1) := by
  intro v d lv fv w hdep hd0 hd1 his
  obtain ⟨⟨a, c, rfl⟩, ⟨a', c', rfl⟩, hLb, hFb⟩ := his.len
  obtain ⟨k, y, n, t, l, f⟩ := v
  have hdl : ∀ x ∈ l, x.dep ≤ N := fun x hx => by have := dep_list (v := .mk k y n t l f) hx; omega
  have hdf : ∀ p ∈ f, p.2.dep ≤ N := fun p hp => by have := dep_fields (v := .mk k y n t l f) hp; omega
  have HDL := Lib.hid hdl
  have HDF := Lib.hid hdf
  clear hdl hdf hdep
  simp only [V.kind, V.yes, V.num, V.text, V.list, V.fields] at *
  have hr : Hid ((V.mk k y n t l f).right d = (decide (1 ≤ d) && plainP k y n t l f && rightL l (d - 1) && rightF none f (d - 1))) := Lib.hid rfl
  have hpl := plain_any k y n t a c l a' c' f
  by_cases hlt : d < 1
  · go_enter Try.func78, Try.ntmps78
    go_wp2_with fail
    go_ret
    refine ⟨ret_bool2 ?_, (Below.refl _ w).alloc (Nat.le_refl _) _⟩
    rw [hr.out]
    simp; omega
  · cases hp : plainP k y n t l f
    · rw [hp] at hpl
      go_enter Try.func78, Try.ntmps78
      go_wp2_with fail
      refine (hpl _).mono ?_
      rintro e w1 ⟨rfl, hb1'⟩
      have hb1 := ((Below.refl _ w).alloc (Nat.le_refl _) _).trans (hb1'.mono (by simp))
      go_wp2
      go_ret
      exact ⟨ret_bool2 (by rw [hr.out, hp]; simp), hb1⟩
    · rw [hp] at hpl hr
      clear hp
      go_enter Try.func78, Try.ntmps78
      go_wp2_with fail
      refine (hpl _).mono ?_
      rintro e w1 ⟨rfl, hb1⟩
      have hbw := ((Below.refl _ w).alloc (Nat.le_refl _) (.cells #[.int .i64 k, .bool y, .int .i64 n, .string t, .slice a l.length c, .slice a' f.length c'] 26))
      have hb0 := hbw.trans (hb1.mono (by simp))
      have hz1 := hb1.size
      have hcl : w1.cell? ⟨w.heap.size, 4, none⟩ = some (.slice a l.length c) := by rw [hb1.cell (by simp)]; simp
      have hcf : w1.cell? ⟨w.heap.size, 5, none⟩ = some (.slice a' f.length c') := by rw [hb1.cell (by simp)]; simp
      have hlt0 : w.heap.size < w1.heap.size := by simp at hz1; omega
      clear hpl hbw
      have hnl : ∀ (q : Nat) (h : q < l.length), l[q].right (d - 1) = false → Hid ((V.mk k y n t l f).right d = false) := fun q h e => Lib.hid (by
        rw [hr.out, show rightL l (d - 1) = false by
          rw [Bool.eq_false_iff]; intro hh; rw [rightL_iff.1 hh _ (List.getElem_mem h)] at e; cases e]
        simp)
      have HNL := Lib.hid hnl
      clear hnl
      go_wp2
      go_loopw [19] (fun i wr => ∃ j : Nat, j ≤ l.length ∧ i = .int .i64 j ∧ Below w1.heap.size w1 wr ∧ ∀ (q : Nat) (h : q < l.length), q < j → l[q].right (d - 1) = true) (fun i _ => l.length - (intOf i).toNat)
      case atStart => exact ⟨0, Nat.zero_le _, rfl, Below.refl _ _, fun q h hq => by omega⟩
      case round =>
        obtain ⟨j, hj, rfl, hbr, hall⟩ := hrel
        have hbwr := hb0.trans (hbr.mono (by simp at hz1; omega))
        have hzr := hbr.size
        have HALL := Lib.hid hall
        clear hall
        by_cases hjl : j < l.length
        · obtain ⟨b, off, cc, lv', fv', e1, hbl, hin, hel⟩ := (his.below hbwr).elem (i := j) hjl
          injection e1 with e1 e3 e2
          clear e3
          subst e1 e2
          have hxd := HDL.out _ (List.getElem_mem hjl)
          obtain ⟨q0, q1, q2, q3, q4, q5⟩ := hin.six
          have hno := HNL.out j hjl
          have hxx : Hid ((V.mk k y n t l f).list[j]'hjl = l[j]) := Lib.hid rfl
          simp only [V.list] at q0 q1 q2 q3 q4 q5 hel
          have hall' : l[j].right (d - 1) = true → Hid (∀ (q : Nat) (h : q < l.length), q < j + 1 → l[q].right (d - 1) = true) := fun e => Lib.hid (fun q h hq => by
            by_cases e2 : q = j
            · subst e2; exact e
            · exact HALL.out q h (by omega))
          generalize l[j] = x at q0 q1 q2 q3 q4 q5 hel hxd hno hall'
          obtain ⟨⟨ax, cx, rfl⟩, ⟨ax', cx', rfl⟩, _, _⟩ := hel.len
          have hjl' : (j : Int) < (l.length : Int) := by omega
          have hcall := ih x (d - 1) _ _ _ hxd (by omega) (by omega) (hel.below ((Below.refl _ _).alloc (Nat.le_refl _) (.cells #[.int .i64 x.kind, .bool x.yes, .int .i64 x.num, .string x.text, .slice ax x.list.length cx, .slice ax' x.fields.length cx'] 26)))
          clear hin hel hxx
          cases hx : x.right (d - 1)
          · rw [hx] at hcall
            have HF := hno hx
            clear hno hall' hx
            go_wp2_with fail
            refine hcall.mono ?_
            rintro e w2 ⟨rfl, hb2'⟩
            have hb2 := hbwr.trans (((Below.refl _ _).alloc (Nat.le_refl _) _).trans (hb2'.mono (by simp)) |>.mono hbwr.size)
            clear hcall hb2'
            go_wp2
            go_ret
            exact ⟨ret_bool2 HF.out.symm, hb2⟩
          · rw [hx] at hcall
            have HT := hall' hx
            clear hno hall' hx
            go_wp2_with fail
            refine hcall.mono ?_
            rintro e w2 ⟨rfl, hb2'⟩
            have hb2 := hbr.trans (((Below.refl _ _).alloc (Nat.le_refl _) _).trans (hb2'.mono (by simp)) |>.mono hzr)
            clear hcall hb2'
            go_wp2
            go_roundw
            case rel => exact ⟨j + 1, by omega, by go_num, hb2, HT.out⟩
            case measure => simp [intOf]; omega
        · have hge : ¬ (j : Int) < (l.length : Int) := by omega
          have hL : Hid (rightL l (d - 1) = true) := Lib.hid (rightL_iff.2 fun x hx => by
            obtain ⟨q, hq, rfl⟩ := List.getElem_of_mem hx
            exact HALL.out q hq (by omega))
          have hcf2 : wr.cell? ⟨w.heap.size, 5, none⟩ = some (.slice a' f.length c') := (hbr.cell (p := ⟨w.heap.size, 5, none⟩) hlt0).trans hcf
          clear hjl HNL HALL
          have hnf : ∀ (q : Nat) (h : q < f.length), ¬ ((f[q]).2.right (d - 1) = true ∧ nameLt (if h0 : 0 < q then some (f[q - 1]'(by omega)).1 else none) (f[q]).1 = true) → Hid ((V.mk k y n t l f).right d = false) := fun q h e => Lib.hid (by
            rw [hr.out, show rightF none f (d - 1) = false by
              rw [Bool.eq_false_iff]; intro hh; exact e (rightF_iff.1 hh q h)]
            simp)
          have HNF := Lib.hid hnf
          clear hnf
          go_wp2
          go_loopw [32] (fun i wr => ∃ j : Nat, j ≤ f.length ∧ i = .int .i64 j ∧ Below w1.heap.size w1 wr ∧ ∀ (q : Nat) (h : q < f.length), q < j → (f[q]).2.right (d - 1) = true ∧ nameLt (if h0 : 0 < q then some (f[q - 1]'(by omega)).1 else none) (f[q]).1 = true) (fun i _ => f.length - (intOf i).toNat)
          case atStart => exact ⟨0, Nat.zero_le _, rfl, hbr, fun q h hq => by omega⟩
          case round =>
            clear hbr hzr hbwr hcf2 hge hj
            obtain ⟨j, hj, rfl, hbr, hall⟩ := hrel
            have hbwr := hb0.trans (hbr.mono (by simp at hz1; omega))
            have hzr := hbr.size
            have HALL := Lib.hid hall
            clear hall
            by_cases hjl : j < f.length
            · obtain ⟨b, off, cc, e1, hbl, hFC⟩ := (his.below hbwr).fcells (by show 0 < f.length; omega)
              injection e1 with e1 e3 e2
              clear e3
              subst e1 e2
              simp only [V.fields] at hFC
              obtain ⟨lv', fv', hin, (hel : (f[j]).2.Is wr lv' fv')⟩ := hFC.get hjl
              have hxd := HDF.out _ (List.getElem_mem hjl)
              obtain ⟨q0, q1, q2, q3, q4, q5, q6⟩ := hin.seven
              have hcf2 : wr.cell? ⟨w.heap.size, 5, none⟩ = some (.slice (some ⟨b, off, none⟩) f.length c') := (hbr.cell (p := ⟨w.heap.size, 5, none⟩) hlt0).trans hcf
              have hno := HNF.out j hjl
              have hall' : (f[j]).2.right (d - 1) = true → nameLt (if h0 : 0 < j then some (f[j - 1]'(by omega)).1 else none) (f[j]).1 = true → Hid (∀ (q : Nat) (h : q < f.length), q < j + 1 → (f[q]).2.right (d - 1) = true ∧ nameLt (if h0 : 0 < q then some (f[q - 1]'(by omega)).1 else none) (f[q]).1 = true) := fun g1 g2 => Lib.hid (fun q h hq => by
                by_cases e2 : q = j
                · subst e2; exact ⟨g1, g2⟩
                · exact HALL.out q h (by omega))
              have hjl' : (j : Int) < (f.length : Int) := by omega
              by_cases hj0 : j = 0
              · have hj0' : ¬ (0 : Int) < (j : Int) := by omega
                have HJ0 := Lib.hid (show ¬ 0 < j by omega)
                have hno' : (f[j]).2.right (d - 1) = false → Hid ((V.mk k y n t l f).right d = false) := fun e => hno (by rw [e]; simp)
                have hall2 := fun (e : (f[j]).2.right (d - 1) = true) => hall' e (by rw [dif_neg (by omega)]; rfl)
                clear hno hall' hj0
                generalize (f[j]).1 = nm at q0
                generalize (f[j]).2 = x at q1 q2 q3 q4 q5 q6 hel hxd hno' hall2
                obtain ⟨⟨ax, cx, rfl⟩, ⟨ax', cx', rfl⟩, _, _⟩ := hel.len
                have hcall := fun W hW => ih x (d - 1) _ _ W hxd (by omega) (by omega) (hel.below hW)
                have HCALL := Lib.hid hcall
                clear hin hel hFC hcall
                go_wp2_with fail
                have hj0n := HJ0.out
                refine wp_region_still_tail 19 (by kernel_rfl) (by kernel_rfl) ?_
                change wpStill _ _ (World.drew _) (fun a' => wpList _ _ _ _ a' (World.drew _)) _ _
                simp only [List.take_succ_cons, List.take_zero, List.drop_succ_cons, List.drop_zero]
                repeat still_step
                refine wpStill_nil ?_
                have hcall2 := HCALL.out _ ((Below.refl _ wr).alloc (Nat.le_refl _) (.cells #[.string nm, .int .i64 x.kind, .bool x.yes, .int .i64 x.num, .string x.text, .slice ax x.list.length cx, .slice ax' x.fields.length cx'] 68)).drew
                cases hx : x.right (d - 1)
                · rw [hx] at hcall2
                  have HF := hno' hx
                  clear hno' hall2 hx
                  go_wp2_with fail
                  refine hcall2.mono ?_
                  rintro e w2 ⟨rfl, hb2'⟩
                  have hb2 := hbwr.trans ((((Below.refl _ _).alloc (Nat.le_refl _) _).drew.trans (hb2'.mono (by simp))).mono hbwr.size)
                  clear hcall2 hb2'
                  go_wp2
                  go_ret
                  exact ⟨ret_bool2 HF.out.symm, hb2⟩
                · rw [hx] at hcall2
                  have HT := hall2 hx
                  clear hno' hall2 hx
                  go_wp2_with fail
                  refine hcall2.mono ?_
                  rintro e w2 ⟨rfl, hb2'⟩
                  have hb2 := hbr.trans ((((Below.refl _ _).alloc (Nat.le_refl _) _).drew.trans (hb2'.mono (by simp))).mono hzr)
                  clear hcall2 hb2'
                  go_wp2
                  go_roundw
                  case rel => exact ⟨j + 1, by omega, by go_num, hb2, HT.out⟩
                  case measure => simp [intOf]; omega
              · have hj0' : (0 : Int) < (j : Int) := by omega
                have HJ0 := Lib.hid (show 0 < j by omega)
                obtain ⟨lp, fp, hinp, _⟩ := hFC.get (i := j - 1) (by omega)
                have p0 := hinp.seven.1
                have HQ := Lib.hid (show IntKind.i64.wrap ((j : Int) - 1) = (j : Int) - 1 ∧ (0 : Int) ≤ (j : Int) - 1 ∧ ((j : Int) - 1).toNat = j - 1 ∧ (j : Int) - 1 < (f.length : Int) ∧ (1 : Int) ≤ (j : Int) by rw [IntKind.wrap_i64]; omega)
                have hnl : nameLt (if h0 : 0 < j then some (f[j - 1]'(by omega)).1 else none) (f[j]).1 = decide ((f[j - 1]'(by omega)).1.data.toList < (f[j]).1.data.toList) := by rw [dif_pos (by omega)]; rfl
                rw [hnl] at hno hall'
                clear hnl hinp hj0
                generalize (f[j - 1]'(by omega)).1 = pm at p0 hno hall'
                generalize (f[j]).1 = nm at q0 hno hall'
                generalize (f[j]).2 = x at q1 q2 q3 q4 q5 q6 hel hxd hno hall'
                obtain ⟨⟨ax, cx, rfl⟩, ⟨ax', cx', rfl⟩, _, _⟩ := hel.len
                have hlt2 : w.heap.size < wr.heap.size := by omega
                have p5 : (wr.alloc (.cells #[.string nm, .int .i64 x.kind, .bool x.yes, .int .i64 x.num, .string x.text, .slice ax x.list.length cx, .slice ax' x.fields.length cx'] 68)).cell? ⟨w.heap.size, 5, none⟩ = some (.slice (some ⟨b, off, none⟩) f.length c') := (World.cell?_alloc_lt wr _ ⟨w.heap.size, 5, none⟩ hlt2).trans hcf2
                have p6 : (wr.alloc (.cells #[.string nm, .int .i64 x.kind, .bool x.yes, .int .i64 x.num, .string x.text, .slice ax x.list.length cx, .slice ax' x.fields.length cx'] 68)).cell? ⟨b, off + (j - 1) * 7, none⟩ = some (.string pm) := (World.cell?_alloc_lt wr _ ⟨b, off + (j - 1) * 7, none⟩ hbl).trans p0
                have hcall := fun W hW => ih x (d - 1) _ _ W hxd (by omega) (by omega) (hel.below hW)
                have HCALL := Lib.hid hcall
                clear hin hel hFC hcall
                by_cases hpn : pm.data.toList < nm.data.toList
                · have hno' : x.right (d - 1) = false → Hid ((V.mk k y n t l f).right d = false) := fun e => hno (by rw [e]; simp)
                  have hall2 := fun (e : x.right (d - 1) = true) => hall' e (decide_eq_true hpn)
                  have e1 : Op.bytesLess nm.toList pm.toList = false := by rw [Proofs.bytesLess_eq, Lib.toList_data, Lib.toList_data]; exact decide_eq_false (lt_asym hpn)
                  have e2 : (nm.toList == pm.toList) = false := by
                    rw [Lib.toList_data, Lib.toList_data, beq_eq_false_iff_ne]; intro e; rw [e] at hpn; exact lt_irr _ hpn
                  clear hno hall' hpn
                  go_wp2_with fail
                  have hj0n := HJ0.out
                  obtain ⟨r1, r2, r3, r4, r5⟩ := HQ.out
                  refine wp_region_still_tail 19 (by kernel_rfl) (by kernel_rfl) ?_
                  change wpStill _ _ (World.drew _) (fun a' => wpList _ _ _ _ a' (World.drew _)) _ _
                  simp only [List.take_succ_cons, List.take_zero, List.drop_succ_cons, List.drop_zero]
                  repeat still_step
                  refine wpStill_nil ?_
                  clear r1 r2 r3 r4 r5
                  have hcall2 := HCALL.out _ ((Below.refl _ wr).alloc (Nat.le_refl _) (.cells #[.string nm, .int .i64 x.kind, .bool x.yes, .int .i64 x.num, .string x.text, .slice ax x.list.length cx, .slice ax' x.fields.length cx'] 68)).drew
                  cases hx : x.right (d - 1)
                  · rw [hx] at hcall2
                    have HF := hno' hx
                    clear hno' hall2 hx
                    go_wp2_with fail
                    refine hcall2.mono ?_
                    rintro e w2 ⟨rfl, hb2'⟩
                    have hb2 := hbwr.trans ((((Below.refl _ _).alloc (Nat.le_refl _) _).drew.trans (hb2'.mono (by simp))).mono hbwr.size)
                    clear hcall2 hb2'
                    go_wp2
                    go_ret
                    exact ⟨ret_bool2 HF.out.symm, hb2⟩
                  · rw [hx] at hcall2
                    have HT := hall2 hx
                    clear hno' hall2 hx
                    go_wp2_with fail
                    refine hcall2.mono ?_
                    rintro e w2 ⟨rfl, hb2'⟩
                    have hb2 := hbr.trans ((((Below.refl _ _).alloc (Nat.le_refl _) _).drew.trans (hb2'.mono (by simp))).mono hzr)
                    clear hcall2 hb2'
                    go_wp2
                    go_roundw
                    case rel => exact ⟨j + 1, by omega, by go_num, hb2, HT.out⟩
                    case measure => simp [intOf]; omega
                · have HF := hno (fun h => hpn (of_decide_eq_true h.2))
                  have e1 : (Op.bytesLess nm.toList pm.toList || nm.toList == pm.toList) = true := by
                    rw [Proofs.bytesLess_eq, Lib.toList_data, Lib.toList_data]
                    rcases lt_tri nm.data.toList pm.data.toList with h | h | h
                    · simp [h]
                    · simp [h]
                    · exact absurd h hpn
                  clear hno hall' hpn
                  have hb2 := hbwr.trans ((((Below.refl _ _).alloc (Nat.le_refl _) (.cells #[.string nm, .int .i64 x.kind, .bool x.yes, .int .i64 x.num, .string x.text, .slice ax x.list.length cx, .slice ax' x.fields.length cx'] 68)).drew).mono hbwr.size)
                  go_wp2_with fail
                  have hj0n := HJ0.out
                  obtain ⟨r1, r2, r3, r4, r5⟩ := HQ.out
                  refine wp_region_still_tail 19 (by kernel_rfl) (by kernel_rfl) ?_
                  change wpStill _ _ (World.drew _) (fun a' => wpList _ _ _ _ a' (World.drew _)) _ _
                  simp only [List.take_succ_cons, List.take_zero, List.drop_succ_cons, List.drop_zero]
                  repeat still_step
                  refine wpStill_nil ?_
                  clear r1 r2 r3 r4 r5
                  go_wp2
                  go_ret
                  exact ⟨ret_bool2 HF.out.symm, hb2⟩
            · have hge : ¬ (j : Int) < (f.length : Int) := by omega
              have hF : Hid (rightF none f (d - 1) = true) := Lib.hid (rightF_iff.2 fun q hq => HALL.out q hq (by omega))
              clear hjl HNF HALL
              go_wp2
              go_ret
              refine ⟨ret_bool2 ?_, hbwr⟩
              rw [hr.out, hL.out, hF.out]
              simp; omega

theorem rw_all : ∀ N, RW N
  | 0 => fun v d lv fv w hd _ _ _ => by
    cases v
    rw [V.dep] at hd
    omega
  | N + 1 => rw_step N (rw_all N)

theorem right_any (v : V) (lv fv : Value) (w : World) (h : v.Is w lv fv) :
    Calls Try.prog 51 #[.agg #[.int .i64 v.kind, .bool v.yes, .int .i64 v.num, .string v.text, lv, fv]] w fun e w' => e = .returned (.bool (v.right 32)) ∧ Below w.heap.size w w' := by
  obtain ⟨⟨a, c, rfl⟩, ⟨a', c', rfl⟩, _, _⟩ := h.len
  have hcall := rw_all v.dep v 32 _ _ _ (Nat.le_refl _) (by omega) (by omega) (h.below ((Below.refl _ w).alloc (Nat.le_refl _) (.cells #[.int .i64 v.kind, .bool v.yes, .int .i64 v.num, .string v.text, .slice a v.list.length c, .slice a' v.fields.length c'] 26)))
  generalize v.right 32 = b at hcall
  clear h
  go_enter Try.func51, Try.ntmps51
  go_wp2_with fail
  refine hcall.mono ?_
  rintro e w1 ⟨rfl, hb⟩
  go_wp2
  go_ret
  exact ⟨rfl, ((Below.refl _ w).alloc (Nat.le_refl _) _).trans (hb.mono (by simp))⟩

end Go.Proofs.Ytacphlceggbfcaa
