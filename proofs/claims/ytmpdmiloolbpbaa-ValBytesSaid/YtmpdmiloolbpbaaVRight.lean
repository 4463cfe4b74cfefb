/-
  mailbaglaw02.right.
-/
import Derived.Test.YtmpdmiloolbpbaaValHead
import Derived.Deep.DeepCutAuto
import Derived.Outline
import Derived.Test.YtmpdmiloolbpbaaMid
namespace Go.Proofs.Ytmpdmiloolbpbaa
open Go.RowKit

attribute [local irreducible] wpStill

/-- what plain says beside the kind's bounds, as the law asks it -/
def restB (k : Int) (y : Bool) (n : Int) (t : ByteArray) (L F : Nat) : Bool := (k == 1 || !y) && (k == 2 || n == 0) && (k == 3 || decide (t.toList = [])) && (k == 4 || ((L : Int) == 0)) && (k == 5 || ((F : Int) == 0))

theorem plain_rest (k : Int) (y : Bool) (n : Int) (t : ByteArray) (l : List V) (f : List Fd) : plainP k y n t l f = (decide (0 ≤ k) && decide (k ≤ 5) && restB k y n t l.length f.length) := by
  have e1 : decide (t.toList = []) = decide (t = ⟨#[]⟩) := by
    rw [Bool.eq_iff_iff, decide_eq_true_eq, decide_eq_true_eq, Lib.toList_data]
    exact ⟨fun h => by apply ByteArray.ext; exact Array.toList_inj.1 h, fun h => by rw [h]⟩
  have e2 : ∀ x : Nat, ((x : Int) == 0) = decide (x = 0) := fun x => by
    rw [Bool.eq_iff_iff, decide_eq_true_eq, beq_iff_eq]; omega
  unfold plainP restB
  rw [e1, e2, e2]
  simp only [Bool.and_assoc]

def RtOK (N : Nat) : Prop := ∀ (v : V) (d : Int) (lv fv : Value) (w : World), v.dep ≤ N → 0 ≤ d → d ≤ 1000 → v.Is w lv fv →
  Calls Try.prog 15 #[.agg #[.int .i64 v.kind, .bool v.yes, .int .i64 v.num, .string v.text, lv, fv], .int .i64 d] w fun e w' => e = .returned (.bool (v.right (33 - d))) ∧ Below w.heap.size w w'

set_option maxHeartbeats 4000000 in
set_option maxRecDepth 100000 in
theorem rt_step (N : Nat) (ih : RtOK N) : RtOK (N + 1) := by
  intro v d lv fv w hdep hd0 hd1 his
  obtain ⟨⟨a, c, rfl⟩, ⟨a', c', rfl⟩, hLb, hFb⟩ := his.len
  obtain ⟨k, y, n, t, l, f⟩ := v
  have hdl : ∀ x ∈ l, x.dep ≤ N := fun x hx => by have := dep_list (v := .mk k y n t l f) hx; omega
  have hdf : ∀ p ∈ f, p.2.dep ≤ N := fun p hp => by have := dep_fields (v := .mk k y n t l f) hp; omega
  have HDL := Lib.hid hdl
  have HDF := Lib.hid hdf
  clear hdl hdf hdep
  simp only [V.kind, V.yes, V.num, V.text, V.list, V.fields] at *
  have hr : Hid ((V.mk k y n t l f).right (33 - d) = (decide (1 ≤ 33 - d) && plainP k y n t l f && rightL l (33 - d - 1) && rightF none f (33 - d - 1))) := Lib.hid rfl
  have hb0 := ((Below.refl _ w).alloc (Nat.le_refl _) (.cells #[.int .i64 k, .bool y, .int .i64 n, .string t, .slice a l.length c, .slice a' f.length c'] 26))
  by_cases h1 : k < 0
  · have hE : Hid ((V.mk k y n t l f).right (33 - d) = false) := Lib.hid (by rw [hr.out, plain_rest, decide_eq_false (p := 0 ≤ k) (by omega)]; simp)
    go_enter Try.func15, Try.ntmps15
    go_wp2
    go_ret
    exact ⟨ret_bool2 hE.out.symm, hb0⟩
  by_cases h2 : 5 < k
  · have hE : Hid ((V.mk k y n t l f).right (33 - d) = false) := Lib.hid (by rw [hr.out, plain_rest, decide_eq_false (p := k ≤ 5) (by omega)]; simp)
    go_enter Try.func15, Try.ntmps15
    go_wp2
    go_ret
    exact ⟨ret_bool2 hE.out.symm, hb0⟩
  by_cases h3 : 32 < d
  · have hE : Hid ((V.mk k y n t l f).right (33 - d) = false) := Lib.hid (by rw [hr.out, decide_eq_false (p := 1 ≤ 33 - d) (by omega)]; simp)
    go_enter Try.func15, Try.ntmps15
    go_wp2
    go_ret
    exact ⟨ret_bool2 hE.out.symm, hb0⟩
  have hr2 : Hid ((V.mk k y n t l f).right (33 - d) = (restB k y n t l.length f.length && rightL l (33 - (d + 1)) && rightF none f (33 - (d + 1)))) := Lib.hid (by
    rw [hr.out, plain_rest, decide_eq_true (p := 1 ≤ 33 - d) (by omega), decide_eq_true (p := 0 ≤ k) (by omega), decide_eq_true (p := k ≤ 5) (by omega), show 33 - d - 1 = 33 - (d + 1) by omega]
    simp)
  clear hr
  go_enter Try.func15, Try.ntmps15
  go_upto_region 3 with fail
  go_cut [69] (fun s wx => s = .bool (!restB k y n t l.length f.length) ∧ wx = (w.alloc (.cells #[.int .i64 k, .bool y, .int .i64 n, .string t, .slice a l.length c, .slice a' f.length c'] 26)))
  case first =>
    obtain ⟨g1, hg1⟩ : ∃ g, (k != 1) = g := ⟨_, rfl⟩
    obtain ⟨g2, hg2⟩ : ∃ g, (k != 2) = g := ⟨_, rfl⟩
    obtain ⟨g3, hg3⟩ : ∃ g, (k != 3) = g := ⟨_, rfl⟩
    obtain ⟨g4, hg4⟩ : ∃ g, (k != 4) = g := ⟨_, rfl⟩
    obtain ⟨g5, hg5⟩ : ∃ g, (k != 5) = g := ⟨_, rfl⟩
    obtain ⟨g6, hg6⟩ : ∃ g, (n != 0) = g := ⟨_, rfl⟩
    obtain ⟨g7, hg7⟩ : ∃ g, decide (0 < l.length) = g := ⟨_, rfl⟩
    obtain ⟨g8, hg8⟩ : ∃ g, decide (0 < f.length) = g := ⟨_, rfl⟩
    have hg7' : decide ((0 : Int) < (l.length : Int)) = g7 := by rw [← hg7, Bool.eq_iff_iff]; simp
    have hg8' : decide ((0 : Int) < (f.length : Int)) = g8 := by rw [← hg8, Bool.eq_iff_iff]; simp
    have hR : Hid (restB k y n t l.length f.length = ((!g1 || !y) && (!g2 || !g6) && (!g3 || decide (t.toList = [])) && (!g4 || !g7) && (!g5 || !g8))) := Lib.hid (by
      rw [← hg1, ← hg2, ← hg3, ← hg4, ← hg5, ← hg6, ← hg7, ← hg8]
      have e : ∀ x : Nat, ((x : Int) == 0) = !decide (0 < x) := fun x => by
        rw [Bool.eq_iff_iff]; simp
      unfold restB
      rw [e, e]
      simp [bne])
    cases y
    all_goals
      go_wp2_with fail
      all_goals
        go_meet
        exact ⟨by rw [hR.out]; congr 1; simp_all, rfl⟩
  case rest =>
    obtain ⟨hs69, rfl⟩ := hcut
    cases hB : restB k y n t l.length f.length
    · rw [hB] at hs69
      replace hs69 := hs69.trans (show Value.bool (!false) = Value.bool true from rfl)
      subst hs69
      have hE : Hid ((V.mk k y n t l f).right (33 - d) = false) := Lib.hid (by rw [hr2.out, hB]; rfl)
      clear hB
      go_wp2
      go_ret
      exact ⟨ret_bool2 hE.out.symm, hb0⟩
    rw [hB] at hs69
    replace hs69 := hs69.trans (show Value.bool (!true) = Value.bool false from rfl)
    subst hs69
    have hr3 : Hid ((V.mk k y n t l f).right (33 - d) = (rightL l (33 - (d + 1)) && rightF none f (33 - (d + 1)))) := Lib.hid (by rw [hr2.out, hB]; simp)
    have hnl : ∀ (q : Nat) (h : q < l.length), l[q].right (33 - (d + 1)) = false → Hid ((V.mk k y n t l f).right (33 - d) = false) := fun q h e => Lib.hid (by
      rw [hr3.out, show rightL l (33 - (d + 1)) = false by
        rw [Bool.eq_false_iff]; intro hh; rw [rightL_iff.1 hh _ (List.getElem_mem h)] at e; cases e]
      simp)
    have HNL := Lib.hid hnl
    have hnf : ∀ (q : Nat) (h : q < f.length), ¬ ((f[q]).2.right (33 - (d + 1)) = true ∧ nameLt (if h0 : 0 < q then some (f[q - 1]'(by omega)).1 else none) (f[q]).1 = true) → Hid ((V.mk k y n t l f).right (33 - d) = false) := fun q h e => Lib.hid (by
      rw [hr3.out, show rightF none f (33 - (d + 1)) = false by
        rw [Bool.eq_false_iff]; intro hh; exact e (rightF_iff.1 hh q h)]
      simp)
    have HNF := Lib.hid hnf
    clear hnl hnf hB h1 h2 hr2
    go_wp2_with fail
    go_loopw [73] (fun i wr => ∃ j : Nat, j ≤ l.length ∧ i = .int .i64 j ∧ Below w.heap.size w wr ∧ (∀ o : Nat, wr.cell? ⟨w.heap.size, o, none⟩ = (w.alloc (.cells #[.int .i64 k, .bool y, .int .i64 n, .string t, .slice a l.length c, .slice a' f.length c'] 26)).cell? ⟨w.heap.size, o, none⟩) ∧ w.heap.size < wr.heap.size ∧ ∀ (q : Nat) (h : q < l.length), q < j → l[q].right (33 - (d + 1)) = true) (fun i _ => l.length - (intOf i).toNat)
    case atStart => exact ⟨0, Nat.zero_le _, rfl, hb0, fun _ => rfl, by simp, fun q h hq => by omega⟩
    case round =>
      obtain ⟨j, hj, rfl, hbr, hcells, hlt0, hall⟩ := hrel
      have hzr := hbr.size
      have HALL := Lib.hid hall
      have HC := Lib.hid hcells
      clear hall hcells
      by_cases hjl : j < l.length
      · obtain ⟨b, off, cc, lv', fv', e1, hbl, hin, hel⟩ := (his.below hbr).elem (i := j) hjl
        injection e1 with e1 e3 e2
        clear e3
        subst e1 e2
        have hxd := HDL.out _ (List.getElem_mem hjl)
        obtain ⟨q0, q1, q2, q3, q4, q5⟩ := hin.six
        have hno := HNL.out j hjl
        simp only [V.list] at q0 q1 q2 q3 q4 q5 hel
        have hall' : l[j].right (33 - (d + 1)) = true → Hid (∀ (q : Nat) (h : q < l.length), q < j + 1 → l[q].right (33 - (d + 1)) = true) := fun e => Lib.hid (fun q h hq => by
          by_cases e2 : q = j
          · subst e2; exact e
          · exact HALL.out q h (by omega))
        generalize l[j] = x at q0 q1 q2 q3 q4 q5 hel hxd hno hall'
        obtain ⟨⟨ax, cx, rfl⟩, ⟨ax', cx', rfl⟩, _, _⟩ := hel.len
        have hjl' : (j : Int) < (l.length : Int) := by omega
        have hb1 : Below wr.heap.size wr (wr.alloc (.cells #[.int .i64 x.kind, .bool x.yes, .int .i64 x.num, .string x.text, .slice ax x.list.length cx, .slice ax' x.fields.length cx'] 26)) := (Below.refl _ _).alloc (Nat.le_refl _) _
        have hcall := ih x (d + 1) _ _ _ hxd (by omega) (by omega) (V.Is.below hel hb1)
        clear hin hel
        cases hx : x.right (33 - (d + 1))
        · rw [hx] at hcall
          have HF := hno hx
          clear hno hall' hx
          go_wp2_with fail
          refine hcall.mono ?_
          rintro e w2 ⟨rfl, hb2'⟩
          have hb2 := hbr.trans ((hb1.trans (hb2'.mono (by simp))).mono hzr)
          clear hcall hb2'
          go_wp2
          go_ret
          exact ⟨ret_bool2 HF.out.symm, hb2⟩
        · rw [hx] at hcall
          have HT := hall' hx
          clear hno hall' hx
          go_wp2_with fail
          refine hcall.mono ?_
          rintro e w2 ⟨rfl, hb2'⟩
          have hb21 := hb1.trans (hb2'.mono (by simp))
          have hb2 := hbr.trans (hb21.mono hzr)
          have HC2 : Hid (∀ o : Nat, w2.cell? ⟨w.heap.size, o, none⟩ = (w.alloc (.cells #[.int .i64 k, .bool y, .int .i64 n, .string t, .slice (some ⟨b, off, none⟩) l.length c, .slice a' f.length c'] 26)).cell? ⟨w.heap.size, o, none⟩) := Lib.hid (fun o => (hb21.cell (p := ⟨w.heap.size, o, none⟩) hlt0).trans (HC.out o))
          have hlt2 : w.heap.size < w2.heap.size := Nat.lt_of_lt_of_le hlt0 hb21.size
          clear hcall hb2' hb21
          go_wp2
          go_roundw
          case rel => exact ⟨j + 1, by omega, by go_num, hb2, HC2.out, hlt2, HT.out⟩
          case measure => simp [intOf]; omega
      · have hge : ¬ (j : Int) < (l.length : Int) := by omega
        have hL : Hid (rightL l (33 - (d + 1)) = true) := Lib.hid (rightL_iff.2 fun x hx => by
          obtain ⟨q, hq, rfl⟩ := List.getElem_of_mem hx
          exact HALL.out q hq (by omega))
        have hcf2 : wr.cell? ⟨w.heap.size, 5, none⟩ = some (.slice a' f.length c') := by rw [HC.out 5]; simp
        clear hjl HNL HALL HC
        go_wp2
        go_loopw [86] (fun i wr => ∃ j : Nat, j ≤ f.length ∧ i = .int .i64 j ∧ Below w.heap.size w wr ∧ wr.cell? ⟨w.heap.size, 5, none⟩ = some (.slice a' f.length c') ∧ w.heap.size < wr.heap.size ∧ ∀ (q : Nat) (h : q < f.length), q < j → (f[q]).2.right (33 - (d + 1)) = true ∧ nameLt (if h0 : 0 < q then some (f[q - 1]'(by omega)).1 else none) (f[q]).1 = true) (fun i _ => f.length - (intOf i).toNat)
        case atStart => exact ⟨0, Nat.zero_le _, rfl, hbr, hcf2, hlt0, fun q h hq => by omega⟩
        case round =>
          clear hbr hzr hcf2 hge hj hlt0
          obtain ⟨j, hj, rfl, hbr, hcf2, hlt0, hall⟩ := hrel
          have hzr := hbr.size
          have HALL := Lib.hid hall
          clear hall
          by_cases hjl : j < f.length
          · obtain ⟨b, off, cc, e1, hbl, hFC⟩ := (his.below hbr).fcells (by show 0 < f.length; omega)
            injection e1 with e1 e3 e2
            clear e3
            subst e1 e2
            simp only [V.fields] at hFC
            obtain ⟨lv', fv', hin, (hel : (f[j]).2.Is wr lv' fv')⟩ := hFC.get hjl
            have hxd := HDF.out _ (List.getElem_mem hjl)
            obtain ⟨q0, q1, q2, q3, q4, q5, q6⟩ := hin.seven
            have hno := HNF.out j hjl
            have hall' : (f[j]).2.right (33 - (d + 1)) = true → nameLt (if h0 : 0 < j then some (f[j - 1]'(by omega)).1 else none) (f[j]).1 = true → Hid (∀ (q : Nat) (h : q < f.length), q < j + 1 → (f[q]).2.right (33 - (d + 1)) = true ∧ nameLt (if h0 : 0 < q then some (f[q - 1]'(by omega)).1 else none) (f[q]).1 = true) := fun g1 g2 => Lib.hid (fun q h hq => by
              by_cases e2 : q = j
              · subst e2; exact ⟨g1, g2⟩
              · exact HALL.out q h (by omega))
            have hjl' : (j : Int) < (f.length : Int) := by omega
            have HJP : 0 < j → Hid (∃ lp fp, InAt wr b (off + (j - 1) * 7) (.string (f[j - 1]'(by omega)).1 :: (f[j - 1]'(by omega)).2.cells lp fp)) := fun h => Lib.hid (by
              obtain ⟨lp, fp, hinp, _⟩ := hFC.get (i := j - 1) (by omega)
              exact ⟨lp, fp, hinp⟩)
            have hnl : Hid (0 < j → nameLt (if h0 : 0 < j then some (f[j - 1]'(by omega)).1 else none) (f[j]).1 = decide ((f[j - 1]'(by omega)).1.data.toList < (f[j]).1.data.toList)) := Lib.hid (fun h0 => by rw [dif_pos h0]; rfl)
            have hn0 : Hid (j = 0 → nameLt (if h0 : 0 < j then some (f[j - 1]'(by omega)).1 else none) (f[j]).1 = true) := Lib.hid (fun h0 => by rw [dif_neg (by omega)]; rfl)
            have HDW := Lib.hid (show IntKind.i64.wrap (d + 1) = d + 1 by rw [IntKind.wrap_i64]; omega)
            generalize hnmj : (f[j]).1 = nm at q0 hnl hn0 hno hall'
            generalize (f[j]).2 = x at q1 q2 q3 q4 q5 q6 hel hxd hno hall'
            obtain ⟨⟨ax, cx, rfl⟩, ⟨ax', cx', rfl⟩, _, _⟩ := hel.len
            have HB : Hid (Below wr.heap.size wr ((wr.alloc (.cells #[.string nm, .int .i64 x.kind, .bool x.yes, .int .i64 x.num, .string x.text, .slice ax x.list.length cx, .slice ax' x.fields.length cx'] 43)).drew)) := Lib.hid (((Below.refl _ wr).alloc (Nat.le_refl _) _).drew)
            have hcall := ih x (d + 1) _ _ _ hxd (by omega) (by omega) (V.Is.below hel HB.out)
            clear hin hel hFC hnmj
            cases hx : x.right (33 - (d + 1))
            · rw [hx] at hcall
              have HCALL := Lib.hid hcall
              have HF := hno (by rw [hx]; simp)
              clear hno hall' hx hcall hcf2 HJP hnl hn0
              have HK : Hid (∀ w4, Below ((wr.alloc (.cells #[.string nm, .int .i64 x.kind, .bool x.yes, .int .i64 x.num, .string x.text, .slice ax x.list.length cx, .slice ax' x.fields.length cx'] 43)).drew).heap.size (wr.alloc (.cells #[.string nm, .int .i64 x.kind, .bool x.yes, .int .i64 x.num, .string x.text, .slice ax x.list.length cx, .slice ax' x.fields.length cx'] 43)).drew w4 → w4.cell? ⟨wr.heap.size, 1, none⟩ = some (.int .i64 x.kind) ∧ w4.cell? ⟨wr.heap.size, 2, none⟩ = some (.bool x.yes) ∧ w4.cell? ⟨wr.heap.size, 3, none⟩ = some (.int .i64 x.num) ∧ w4.cell? ⟨wr.heap.size, 4, none⟩ = some (.string x.text) ∧ w4.cell? ⟨wr.heap.size, 5, none⟩ = some (.slice ax x.list.length cx) ∧ w4.cell? ⟨wr.heap.size, 6, none⟩ = some (.slice ax' x.fields.length cx')) := Lib.hid (fun w4 hb => by
                have hz : (wr.alloc (.cells #[.string nm, .int .i64 x.kind, .bool x.yes, .int .i64 x.num, .string x.text, .slice ax x.list.length cx, .slice ax' x.fields.length cx'] 43)).drew.heap.size = wr.heap.size + 1 := by show (wr.alloc (.cells #[.string nm, .int .i64 x.kind, .bool x.yes, .int .i64 x.num, .string x.text, .slice ax x.list.length cx, .slice ax' x.fields.length cx'] 43)).heap.size = _; simp
                have h0 : ∀ i : Nat, w4.cell? ⟨wr.heap.size, i, none⟩ = (wr.alloc (.cells #[.string nm, .int .i64 x.kind, .bool x.yes, .int .i64 x.num, .string x.text, .slice ax x.list.length cx, .slice ax' x.fields.length cx'] 43)).cell? ⟨wr.heap.size, i, none⟩ := fun i => hb.cell (by rw [hz]; show wr.heap.size < _; omega)
                refine ⟨?_, ?_, ?_, ?_, ?_, ?_⟩ <;> (rw [h0]; simp))
              go_wp2_with fail
              have hdw := HDW.out
              refine wp_region_mid 4 _ (by kernel_rfl) (by kernel_rfl) rfl ?_
              change wpStill _ _ (World.drew _) (fun a' => MidCall _ _ _ _ _ a' (World.drew _)) _ _
              simp only [List.take_succ_cons, List.take_zero, List.drop_succ_cons, List.drop_zero]
              repeat still_step
              refine wpStill_nil ?_
              refine midCall_of (by rfl) _ _ ?_ HCALL.out ?_
              · go_simp
              rintro w4 hb4
              have hS4 := HK.out _ hb4
              obtain ⟨s1, s2, s3, s4, s5, s6⟩ := hS4
              repeat still_step
              refine wpStill_nil ?_
              have hb5 := hbr.trans ((HB.out.trans (hb4.mono (by simp))).mono hzr)
              clear hb4
              go_wp2
              go_ret
              exact ⟨ret_bool2 HF.out.symm, hb5⟩
            · rw [hx] at hcall
              have HCALL := Lib.hid hcall
              by_cases hj0 : j = 0
              · have HT := hall' hx (hn0.out hj0)
                have hj0' : ¬ (0 : Int) < (j : Int) := by omega
                have hj0n : ¬ 0 < j := by omega
                have HJ0 := Lib.hid hj0'
                have HJ1 := Lib.hid hj0n
                clear hno hall' hx hcall HJP hnl hn0 hj0 hj0' hj0n
                have HK : Hid (∀ w4, Below ((wr.alloc (.cells #[.string nm, .int .i64 x.kind, .bool x.yes, .int .i64 x.num, .string x.text, .slice ax x.list.length cx, .slice ax' x.fields.length cx'] 43)).drew).heap.size (wr.alloc (.cells #[.string nm, .int .i64 x.kind, .bool x.yes, .int .i64 x.num, .string x.text, .slice ax x.list.length cx, .slice ax' x.fields.length cx'] 43)).drew w4 → w4.cell? ⟨wr.heap.size, 1, none⟩ = some (.int .i64 x.kind) ∧ w4.cell? ⟨wr.heap.size, 2, none⟩ = some (.bool x.yes) ∧ w4.cell? ⟨wr.heap.size, 3, none⟩ = some (.int .i64 x.num) ∧ w4.cell? ⟨wr.heap.size, 4, none⟩ = some (.string x.text) ∧ w4.cell? ⟨wr.heap.size, 5, none⟩ = some (.slice ax x.list.length cx) ∧ w4.cell? ⟨wr.heap.size, 6, none⟩ = some (.slice ax' x.fields.length cx')) := Lib.hid (fun w4 hb => by
                  have hz : (wr.alloc (.cells #[.string nm, .int .i64 x.kind, .bool x.yes, .int .i64 x.num, .string x.text, .slice ax x.list.length cx, .slice ax' x.fields.length cx'] 43)).drew.heap.size = wr.heap.size + 1 := by show (wr.alloc (.cells #[.string nm, .int .i64 x.kind, .bool x.yes, .int .i64 x.num, .string x.text, .slice ax x.list.length cx, .slice ax' x.fields.length cx'] 43)).heap.size = _; simp
                  have h0 : ∀ i : Nat, w4.cell? ⟨wr.heap.size, i, none⟩ = (wr.alloc (.cells #[.string nm, .int .i64 x.kind, .bool x.yes, .int .i64 x.num, .string x.text, .slice ax x.list.length cx, .slice ax' x.fields.length cx'] 43)).cell? ⟨wr.heap.size, i, none⟩ := fun i => hb.cell (by rw [hz]; show wr.heap.size < _; omega)
                  refine ⟨?_, ?_, ?_, ?_, ?_, ?_⟩ <;> (rw [h0]; simp))
                go_wp2_with fail
                have hdw := HDW.out
                have hj0' := HJ0.out
                have hj0n := HJ1.out
                refine wp_region_mid 4 _ (by kernel_rfl) (by kernel_rfl) rfl ?_
                change wpStill _ _ (World.drew _) (fun a' => MidCall _ _ _ _ _ a' (World.drew _)) _ _
                simp only [List.take_succ_cons, List.take_zero, List.drop_succ_cons, List.drop_zero]
                repeat still_step
                refine wpStill_nil ?_
                refine midCall_of (by rfl) _ _ ?_ HCALL.out ?_
                · go_simp
                rintro w4 hb4
                have hS4 := HK.out _ hb4
                obtain ⟨s1, s2, s3, s4, s5, s6⟩ := hS4
                repeat still_step
                refine wpStill_nil ?_
                have hb5 := hbr.trans ((HB.out.trans (hb4.mono (by simp))).mono hzr)
                have hc5 : w4.cell? ⟨w.heap.size, 5, none⟩ = some (.slice (some ⟨b, off, none⟩) f.length c') := by
                  have h1 := hb4.cell (p := ⟨w.heap.size, 5, none⟩) (by simp; omega)
                  exact h1.trans ((World.cell?_alloc_lt wr _ ⟨w.heap.size, 5, none⟩ hlt0).trans hcf2)
                have hlt5 : w.heap.size < w4.heap.size := by have := (HB.out.trans (hb4.mono (by simp))).size; omega
                clear hb4
                go_wp2
                go_roundw
                case rel => exact ⟨j + 1, by omega, by go_num, hb5, hc5, hlt5, HT.out⟩
                case measure => simp [intOf]; omega
              · have hj0n : 0 < j := by omega
                have HJ1 := Lib.hid hj0n
                obtain ⟨lp, fp, hinp⟩ := (HJP hj0n).out
                have p0 := hinp.seven.1
                have HQ := Lib.hid (show IntKind.i64.wrap ((j : Int) - 1) = (j : Int) - 1 ∧ (0 : Int) ≤ (j : Int) - 1 ∧ ((j : Int) - 1).toNat = j - 1 ∧ (j : Int) - 1 < (f.length : Int) ∧ (1 : Int) ≤ (j : Int) by rw [IntKind.wrap_i64]; omega)
                have hnl' := hnl.out hj0n
                rw [hnl'] at hno hall'
                clear hnl hn0 HJP hinp hj0 hnl'
                generalize (f[j - 1]'(by omega)).1 = pm at p0 hno hall'
                have hlt0' := hlt0
                have HK : Hid (∀ w4, Below ((wr.alloc (.cells #[.string nm, .int .i64 x.kind, .bool x.yes, .int .i64 x.num, .string x.text, .slice ax x.list.length cx, .slice ax' x.fields.length cx'] 43)).drew).heap.size (wr.alloc (.cells #[.string nm, .int .i64 x.kind, .bool x.yes, .int .i64 x.num, .string x.text, .slice ax x.list.length cx, .slice ax' x.fields.length cx'] 43)).drew w4 → w4.cell? ⟨wr.heap.size, 1, none⟩ = some (.int .i64 x.kind) ∧ w4.cell? ⟨wr.heap.size, 2, none⟩ = some (.bool x.yes) ∧ w4.cell? ⟨wr.heap.size, 3, none⟩ = some (.int .i64 x.num) ∧ w4.cell? ⟨wr.heap.size, 4, none⟩ = some (.string x.text) ∧ w4.cell? ⟨wr.heap.size, 5, none⟩ = some (.slice ax x.list.length cx) ∧ w4.cell? ⟨wr.heap.size, 6, none⟩ = some (.slice ax' x.fields.length cx') ∧ w4.cell? ⟨wr.heap.size, 0, none⟩ = some (.string nm) ∧ w4.cell? ⟨w.heap.size, 5, none⟩ = some (.slice (some ⟨b, off, none⟩) f.length c') ∧ w4.cell? ⟨b, off + (j - 1) * 7, none⟩ = some (.string pm)) := Lib.hid (fun w4 hb => by
                  have hz : (wr.alloc (.cells #[.string nm, .int .i64 x.kind, .bool x.yes, .int .i64 x.num, .string x.text, .slice ax x.list.length cx, .slice ax' x.fields.length cx'] 43)).drew.heap.size = wr.heap.size + 1 := by show (wr.alloc (.cells #[.string nm, .int .i64 x.kind, .bool x.yes, .int .i64 x.num, .string x.text, .slice ax x.list.length cx, .slice ax' x.fields.length cx'] 43)).heap.size = _; simp
                  have h0 : ∀ i : Nat, w4.cell? ⟨wr.heap.size, i, none⟩ = (wr.alloc (.cells #[.string nm, .int .i64 x.kind, .bool x.yes, .int .i64 x.num, .string x.text, .slice ax x.list.length cx, .slice ax' x.fields.length cx'] 43)).cell? ⟨wr.heap.size, i, none⟩ := fun i => hb.cell (by rw [hz]; show wr.heap.size < _; omega)
                  have h1 : ∀ (q i : Nat), q < wr.heap.size → w4.cell? ⟨q, i, none⟩ = wr.cell? ⟨q, i, none⟩ := fun q i hq => (hb.cell (p := ⟨q, i, none⟩) (by rw [hz]; show q < _; omega)).trans (World.cell?_alloc_lt wr _ ⟨q, i, none⟩ hq)
                  refine ⟨?_, ?_, ?_, ?_, ?_, ?_, ?_, (h1 _ _ hlt0).trans hcf2, (h1 _ _ hbl).trans p0⟩ <;> (rw [h0]; simp))
                by_cases hpn : pm.data.toList < nm.data.toList
                · have HT := hall' hx (decide_eq_true hpn)
                  have e1 : Op.bytesLess nm.toList pm.toList = false := by rw [Proofs.bytesLess_eq, Lib.toList_data, Lib.toList_data]; exact decide_eq_false (lt_asym hpn)
                  have e2 : (nm.toList == pm.toList) = false := by
                    rw [Lib.toList_data, Lib.toList_data, beq_eq_false_iff_ne]; intro e; rw [e] at hpn; exact lt_irr _ hpn
                  have e3 : (pm.toList == nm.toList) = false := by
                    rw [Lib.toList_data, Lib.toList_data, beq_eq_false_iff_ne]; intro e; rw [e] at hpn; exact lt_irr _ hpn
                  have e4 : Op.bytesLess pm.toList nm.toList = true := by rw [Proofs.bytesLess_eq, Lib.toList_data, Lib.toList_data]; exact decide_eq_true hpn
                  clear hno hall' hpn hx hcall p0 hj0n
                  go_wp2_with fail
                  have hdw := HDW.out
                  obtain ⟨r1, r2, r3, r4, r5⟩ := HQ.out
                  have hj0n := HJ1.out
                  refine wp_region_mid 4 _ (by kernel_rfl) (by kernel_rfl) rfl ?_
                  change wpStill _ _ (World.drew _) (fun a' => MidCall _ _ _ _ _ a' (World.drew _)) _ _
                  simp only [List.take_succ_cons, List.take_zero, List.drop_succ_cons, List.drop_zero]
                  repeat still_step
                  refine wpStill_nil ?_
                  refine midCall_of (by rfl) _ _ ?_ HCALL.out ?_
                  · go_simp
                  rintro w4 hb4
                  have hS4 := HK.out _ hb4
                  obtain ⟨s1, s2, s3, s4, s5, s6, s7, s8, s9⟩ := hS4
                  repeat still_step
                  refine wpStill_nil ?_
                  clear r1 r2 r3 r4 r5 hj0n
                  have hb5 := hbr.trans ((HB.out.trans (hb4.mono (by simp))).mono hzr)
                  have hc5 : w4.cell? ⟨w.heap.size, 5, none⟩ = some (.slice (some ⟨b, off, none⟩) f.length c') := by
                    have h1 := hb4.cell (p := ⟨w.heap.size, 5, none⟩) (by simp; omega)
                    exact h1.trans ((World.cell?_alloc_lt wr _ ⟨w.heap.size, 5, none⟩ hlt0).trans hcf2)
                  have hlt5 : w.heap.size < w4.heap.size := by have := (HB.out.trans (hb4.mono (by simp))).size; omega
                  clear hb4
                  go_wp2
                  go_roundw
                  case rel => exact ⟨j + 1, by omega, by go_num, hb5, hc5, hlt5, HT.out⟩
                  case measure => simp [intOf]; omega
                · have HF := hno (fun h => hpn (of_decide_eq_true h.2))
                  have e1 : (Op.bytesLess nm.toList pm.toList || nm.toList == pm.toList) = true := by
                    rw [Proofs.bytesLess_eq, Lib.toList_data, Lib.toList_data]
                    rcases lt_tri nm.data.toList pm.data.toList with h | h | h
                    · simp [h]
                    · simp [h]
                    · exact absurd h hpn
                  have e4 : Op.bytesLess pm.toList nm.toList = false := by rw [Proofs.bytesLess_eq, Lib.toList_data, Lib.toList_data]; exact decide_eq_false hpn
                  clear hno hall' hpn hx hcall p0 hj0n
                  go_wp2_with fail
                  have hdw := HDW.out
                  obtain ⟨r1, r2, r3, r4, r5⟩ := HQ.out
                  have hj0n := HJ1.out
                  refine wp_region_mid 4 _ (by kernel_rfl) (by kernel_rfl) rfl ?_
                  change wpStill _ _ (World.drew _) (fun a' => MidCall _ _ _ _ _ a' (World.drew _)) _ _
                  simp only [List.take_succ_cons, List.take_zero, List.drop_succ_cons, List.drop_zero]
                  repeat still_step
                  refine wpStill_nil ?_
                  refine midCall_of (by rfl) _ _ ?_ HCALL.out ?_
                  · go_simp
                  rintro w4 hb4
                  have hS4 := HK.out _ hb4
                  obtain ⟨s1, s2, s3, s4, s5, s6, s7, s8, s9⟩ := hS4
                  repeat still_step
                  refine wpStill_nil ?_
                  clear r1 r2 r3 r4 r5 hj0n
                  have hb5 := hbr.trans ((HB.out.trans (hb4.mono (by simp))).mono hzr)
                  clear hb4
                  go_wp2
                  go_ret
                  exact ⟨ret_bool2 HF.out.symm, hb5⟩
          · have hge : ¬ (j : Int) < (f.length : Int) := by omega
            have hF : Hid (rightF none f (33 - (d + 1)) = true) := Lib.hid (rightF_iff.2 fun q hq => HALL.out q hq (by omega))
            clear hjl HNF HALL
            go_wp2
            go_ret
            exact ⟨ret_bool2 (by rw [hr3.out, hL.out, hF.out]; rfl), hbr⟩

theorem rt_all : ∀ N, RtOK N
  | 0 => fun v d lv fv w hd _ _ _ => by
    cases v
    rw [V.dep] at hd
    omega
  | N + 1 => rt_step N (rt_all N)

theorem rt_any (v : V) (lv fv : Value) (w : World) (h : v.Is w lv fv) :
    Calls Try.prog 15 #[.agg #[.int .i64 v.kind, .bool v.yes, .int .i64 v.num, .string v.text, lv, fv], .int .i64 1] w fun e w' => e = .returned (.bool (v.right 32)) ∧ Below w.heap.size w w' :=
  rt_all v.dep v 1 lv fv w (Nat.le_refl _) (by omega) (by omega) h

end Go.Proofs.Ytmpdmiloolbpbaa
