/-
  val's Compare and Same.
-/
import Derived.Test.YtacphlceggbfcaaValCmp
import Derived.Test.YtacphlceggbfcaaValRW
import Derived.Deep.QuietTactic
import Derived.BigQuiet
import Derived.Outline
import Derived.Test.YtacphlceggbfcaaValFld
namespace Go.Proofs.Ytacphlceggbfcaa
open Go.RowKit

def CmpOK (N : Nat) : Prop := ∀ (v o : V) (lv fv lo fo : Value) (w : World), v.dep ≤ N → v.Is w lv fv → o.Is w lo fo →
  Calls Try.prog 13 #[.agg #[.int .i64 v.kind, .bool v.yes, .int .i64 v.num, .string v.text, lv, fv], .agg #[.int .i64 o.kind, .bool o.yes, .int .i64 o.num, .string o.text, lo, fo]] w fun e w' => e = .returned (.int .i64 (v.cmp o)) ∧ Below w.heap.size w w'

set_option maxHeartbeats 4000000 in
set_option maxRecDepth 100000 in
theorem cmpList_any (N : Nat) (ih : CmpOK N) (v o : V) (hd : ∀ x ∈ v.list, x.dep ≤ N) (lv fv lo fo : Value) (w : World) (hv : v.Is w lv fv) (ho : o.Is w lo fo) :
    Calls Try.prog 45 #[lv, lo, .func (.func 13) #[] #[]] w fun e w' => e = .returned (.int .i64 (cmpVs v.list o.list)) ∧ Below w.heap.size w w' := by
  obtain ⟨⟨a, c, rfl⟩, ⟨a', c', rfl⟩, hLb, hLf⟩ := hv.len
  obtain ⟨⟨b, d, rfl⟩, ⟨b', d', rfl⟩, hMb, hMf⟩ := ho.len
  obtain ⟨k, y0, n, t, l, f⟩ := v
  obtain ⟨k', y', n', t', m, f'⟩ := o
  simp only [V.list, V.fields] at *
  have HD := Lib.hid hd
  clear hd
  go_enter Try.func45, Try.ntmps45
  go_wp2_with fail
  go_loopw [13] (fun i wr => ∃ j : Nat, j ≤ l.length ∧ j ≤ m.length ∧ i = .int .i64 j ∧ Below w.heap.size w wr ∧ Hid (cmpVs l m = cmpVs (l.drop j) (m.drop j))) (fun i _ => l.length - (intOf i).toNat)
  case atStart => exact ⟨0, Nat.zero_le _, Nat.zero_le _, rfl, Below.refl _ _, Lib.hid rfl⟩
  case round =>
    obtain ⟨j, hj, hj2, rfl, hbr, HE⟩ := hrel
    have hzr := hbr.size
    by_cases hjl : j < l.length
    · have hjl' : (j : Int) < (l.length : Int) := by omega
      by_cases hjm : j < m.length
      · have hjm' : ¬ (m.length : Int) ≤ (j : Int) := by omega
        obtain ⟨b0, off, cc, lv', fv', e1, hbl, hin, hel⟩ := (hv.below hbr).elem (i := j) hjl
        obtain ⟨b1, off1, cc1, lw', fw', e2, hbl1, hjn, hem⟩ := (ho.below hbr).elem (i := j) hjm
        injection e1 with e1 e5 e3
        injection e2 with e2 e6 e4
        clear e5 e6
        subst e1 e2 e3 e4
        simp only [V.list] at hin hel hjn hem
        have hxd := HD.out _ (List.getElem_mem hjl)
        have hstep := Lib.hid (cmpVs_at hjl hjm)
        generalize l[j] = x at hin hel hxd hstep
        generalize m[j] = y at hjn hem hstep
        obtain ⟨⟨px, pc, rfl⟩, ⟨py, pd, rfl⟩, _, _⟩ := hel.len
        obtain ⟨⟨qx, qc, rfl⟩, ⟨qy, qd, rfl⟩, _, _⟩ := hem.len
        have hcall := fun W (hW : Below wr.heap.size wr W) => ih x y _ _ _ _ W hxd (hel.below hW) (hem.below hW)
        obtain ⟨p0, p1, p2, p3, p4, p5⟩ := hin.six
        obtain ⟨q0, q1, q2, q3, q4, q5⟩ := hjn.six
        have hb2 : Below wr.heap.size wr ((wr.alloc (.cells #[.int .i64 x.kind, .bool x.yes, .int .i64 x.num, .string x.text, .slice px x.list.length pc, .slice py x.fields.length pd] 26)).alloc (.cells #[.int .i64 y.kind, .bool y.yes, .int .i64 y.num, .string y.text, .slice qx y.list.length qc, .slice qy y.fields.length qd] 26)) := ((Below.refl _ wr).alloc (Nat.le_refl _) _).alloc (by simp) _
        have hcall2 := hcall _ hb2
        obtain ⟨r, hr⟩ : ∃ r, r = x.cmp y := ⟨_, rfl⟩
        rw [← hr] at hcall2 hstep
        clear hcall hin hjn hel hem hr hv ho
        by_cases hr0 : r = 0
        · have hr1 : (r == 0) = true := by rw [beq_iff_eq]; exact hr0
          have hr2 : (r != 0) = false := by rw [bne, hr1]; rfl
          have hE2 : Hid (cmpVs l m = cmpVs (l.drop (j + 1)) (m.drop (j + 1))) := Lib.hid (by rw [HE.out, hstep.out]; simp [hr0])
          clear hstep hr0
          go_wp2_with fail
          refine hcall2.mono ?_
          rintro e w2 ⟨rfl, hb3⟩
          have hb4 := hbr.trans ((hb2.trans (hb3.mono (by simp; omega))).mono hzr)
          clear hcall2 hb3 hb2
          go_wp2
          go_roundw
          case rel => (exact ⟨j + 1, by omega, by omega, by go_num, hb4, hE2⟩)
          case measure => simp [intOf]; omega
        · have hr1 : (r == 0) = false := by rw [beq_eq_false_iff_ne]; exact hr0
          have hr2 : (r != 0) = true := by rw [bne, hr1]; rfl
          have hE2 : Hid (cmpVs l m = r) := Lib.hid (by rw [HE.out, hstep.out]; simp [hr0])
          clear hstep
          go_wp2_with fail
          refine hcall2.mono ?_
          rintro e w2 ⟨rfl, hb3⟩
          have hb4 := hbr.trans ((hb2.trans (hb3.mono (by simp; omega))).mono hzr)
          clear hcall2 hb3 hb2
          go_wp2
          go_ret
          exact ⟨ret_int hE2.out.symm, hb4⟩
      · have hjm' : (m.length : Int) ≤ (j : Int) := by omega
        have hE2 : Hid (cmpVs l m = 1) := Lib.hid (by rw [HE.out, cmpVs_long hjl (by omega)])
        have hcl : ∃ b0 off lv' fv', a = some ⟨b0, off, none⟩ ∧ b0 < wr.heap.size ∧ InAt wr b0 (off + j * 6) ((l[j]).cells lv' fv') ∧ (l[j]).Is wr lv' fv' := by
          obtain ⟨b0, off, cc, lv', fv', e1, hbl, hin, hel⟩ := (hv.below hbr).elem (i := j) hjl
          injection e1 with e1 e5 e3
          exact ⟨b0, off, lv', fv', e1, hbl, hin, hel⟩
        obtain ⟨b0, off, lv', fv', rfl, hbl, hin, hel⟩ := hcl
        generalize l[j] = x at hin hel
        obtain ⟨⟨px, pc, rfl⟩, ⟨py, pd, rfl⟩, _, _⟩ := hel.len
        obtain ⟨p0, p1, p2, p3, p4, p5⟩ := hin.six
        have hb4 := hbr.trans (((Below.refl _ wr).alloc (Nat.le_refl _) (.cells #[.int .i64 x.kind, .bool x.yes, .int .i64 x.num, .string x.text, .slice px x.list.length pc, .slice py x.fields.length pd] 26)).mono hzr)
        clear hin hel HE
        go_wp2
        go_ret
        exact ⟨ret_int hE2.out.symm, hb4⟩
    · have hge : ¬ (j : Int) < (l.length : Int) := by omega
      have hE2 : Hid (cmpVs l m = if l.length < m.length then -1 else 0) := Lib.hid (by rw [HE.out, cmpVs_end (by omega) hj2])
      clear HE hjl
      by_cases hlm : l.length < m.length
      · rw [if_pos hlm] at hE2
        have hlm' : (l.length : Int) < (m.length : Int) := by omega
        go_wp2
        go_ret
        exact ⟨ret_int hE2.out.symm, hbr⟩
      · rw [if_neg hlm] at hE2
        have hlm' : ¬ (l.length : Int) < (m.length : Int) := by omega
        go_wp2
        go_ret
        exact ⟨ret_int hE2.out.symm, hbr⟩

/-- two fields -/
theorem cmpNames_any (a b : ByteArray) (x y : List Value) (w : World) (hx : x.length = 6) (hy : y.length = 6) :
    Calls Try.prog 72 #[.agg (.string a :: x).toArray, .agg (.string b :: y).toArray] w fun e w' => e = .returned (.int .i64 (cmpL a.data.toList b.data.toList)) ∧ Below w.heap.size w w' := by
  match x, hx with
  | [x0, x1, x2, x3, x4, x5], _ =>
    match y, hy with
    | [y0, y1, y2, y3, y4, y5], _ =>
      go_enter Try.func72, Try.ntmps72
      go_wp2_with fail
      refine (cmpText_any a b _).mono ?_
      rintro e w1 ⟨rfl, rfl⟩
      go_wp2
      go_ret
      exact ⟨rfl, ((Below.refl _ w).alloc (Nat.le_refl _) _).alloc (by simp) _⟩

set_option maxHeartbeats 4000000 in
set_option maxRecDepth 100000 in
theorem cmpFd_any (N : Nat) (ih : CmpOK N) (xn yn : ByteArray) (x y : V) (lv fv lo fo : Value) (w : World) (hd : x.dep ≤ N) (hv : x.Is w lv fv) (ho : y.Is w lo fo) :
    Calls Try.prog 47 #[.agg #[.string xn, .int .i64 x.kind, .bool x.yes, .int .i64 x.num, .string x.text, lv, fv], .agg #[.string yn, .int .i64 y.kind, .bool y.yes, .int .i64 y.num, .string y.text, lo, fo]] w fun e w' => e = .returned (.int .i64 (cmpFd (xn, x) (yn, y))) ∧ Below w.heap.size w w' := by
  obtain ⟨⟨px, pc, rfl⟩, ⟨py, pd, rfl⟩, _, _⟩ := hv.len
  obtain ⟨⟨qx, qc, rfl⟩, ⟨qy, qd, rfl⟩, _, _⟩ := ho.len
  have hb2 : Below w.heap.size w ((w.alloc (.cells #[.string xn, .int .i64 x.kind, .bool x.yes, .int .i64 x.num, .string x.text, .slice px x.list.length pc, .slice py x.fields.length pd] 68)).alloc (.cells #[.string yn, .int .i64 y.kind, .bool y.yes, .int .i64 y.num, .string y.text, .slice qx y.list.length qc, .slice qy y.fields.length qd] 68)) := ((Below.refl _ w).alloc (Nat.le_refl _) _).alloc (by simp) _
  by_cases hn : xn = yn
  · have hE : Hid (cmpFd (xn, x) (yn, y) = x.cmp y) := Lib.hid (by unfold cmpFd; simp [hn])
    have hn1 : (xn.toList == yn.toList) = true := by rw [hn, beq_iff_eq]
    have hn2 : (xn.toList != yn.toList) = false := by rw [bne, hn1]; rfl
    have hcall := ih x y _ _ _ _ _ hd (V.Is.below hv hb2) (V.Is.below ho hb2)
    clear hn hv ho
    go_enter Try.func47, Try.ntmps47
    go_wp2_with fail
    refine hcall.mono ?_
    rintro e w1 ⟨rfl, hb3⟩
    have hb4 := hb2.trans (hb3.mono (by simp; omega))
    clear hcall hb3 hb2
    go_wp2
    go_ret
    exact ⟨ret_int hE.out.symm, hb4⟩
  · have hE : Hid (cmpFd (xn, x) (yn, y) = cmpL xn.data.toList yn.data.toList) := Lib.hid (by unfold cmpFd; simp [hn])
    have hn1 : (xn.toList == yn.toList) = false := by
      rw [beq_eq_false_iff_ne, Lib.toList_data, Lib.toList_data]; intro e; exact hn (ByteArray.ext (Array.toList_inj.1 e))
    have hn2 : (xn.toList != yn.toList) = true := by rw [bne, hn1]; rfl
    have hcall := cmpNames_any xn yn [.int .i64 x.kind, .bool x.yes, .int .i64 x.num, .string x.text, .slice px x.list.length pc, .slice py x.fields.length pd] [.int .i64 y.kind, .bool y.yes, .int .i64 y.num, .string y.text, .slice qx y.list.length qc, .slice qy y.fields.length qd] ((w.alloc (.cells #[.string xn, .int .i64 x.kind, .bool x.yes, .int .i64 x.num, .string x.text, .slice px x.list.length pc, .slice py x.fields.length pd] 68)).alloc (.cells #[.string yn, .int .i64 y.kind, .bool y.yes, .int .i64 y.num, .string y.text, .slice qx y.list.length qc, .slice qy y.fields.length qd] 68)) rfl rfl
    clear hn hv ho
    go_enter Try.func47, Try.ntmps47
    go_wp2_with fail
    refine hcall.mono ?_
    rintro e w1 ⟨rfl, hb3⟩
    have hb4 := hb2.trans (hb3.mono (by simp; omega))
    clear hcall hb3 hb2
    go_wp2
    go_ret
    exact ⟨ret_int hE.out.symm, hb4⟩

set_option maxHeartbeats 4000000 in
set_option maxRecDepth 100000 in
theorem cmpFields_any (N : Nat) (ih : CmpOK N) (v o : V) (hd : ∀ x ∈ v.fields, x.2.dep ≤ N) (lv fv lo fo : Value) (w : World) (hv : v.Is w lv fv) (ho : o.Is w lo fo) :
    Calls Try.prog 46 #[fv, fo, .func (.func 47) #[] #[]] w fun e w' => e = .returned (.int .i64 (cmpFs v.fields o.fields)) ∧ Below w.heap.size w w' := by
  obtain ⟨⟨a', c', rfl⟩, ⟨a, c, rfl⟩, hLf, hLb⟩ := hv.len
  obtain ⟨⟨b', d', rfl⟩, ⟨b, d, rfl⟩, hMf, hMb⟩ := ho.len
  obtain ⟨k, y0, n, t, l0, l⟩ := v
  obtain ⟨k', y', n', t', m0, m⟩ := o
  simp only [V.list, V.fields] at *
  have HD := Lib.hid hd
  clear hd
  go_enter Try.func46, Try.ntmps46
  go_wp2_with fail
  go_loopw [13] (fun i wr => ∃ j : Nat, j ≤ l.length ∧ j ≤ m.length ∧ i = .int .i64 j ∧ Below w.heap.size w wr ∧ Hid (cmpFs l m = cmpFs (l.drop j) (m.drop j))) (fun i _ => l.length - (intOf i).toNat)
  case atStart => exact ⟨0, Nat.zero_le _, Nat.zero_le _, rfl, Below.refl _ _, Lib.hid rfl⟩
  case round =>
    obtain ⟨j, hj, hj2, rfl, hbr, HE⟩ := hrel
    have hzr := hbr.size
    by_cases hjl : j < l.length
    · have hjl' : (j : Int) < (l.length : Int) := by omega
      by_cases hjm : j < m.length
      · have hjm' : ¬ (m.length : Int) ≤ (j : Int) := by omega
        obtain ⟨b0, off, cc, lv', fv', e1, hbl, hin, hel⟩ := (hv.below hbr).field (i := j) hjl
        obtain ⟨b1, off1, cc1, lw', fw', e2, hbl1, hjn, hem⟩ := (ho.below hbr).field (i := j) hjm
        injection e1 with e1 e5 e3
        injection e2 with e2 e6 e4
        clear e5 e6
        subst e1 e2 e3 e4
        simp only [V.fields] at hin hel hjn hem
        have hxd := HD.out _ (List.getElem_mem hjl)
        have hstep := Lib.hid (cmpFs_at hjl hjm)
        generalize l[j] = xp at hin hel hxd hstep
        generalize m[j] = yp at hjn hem hstep
        obtain ⟨xn, x⟩ := xp
        obtain ⟨yn, y⟩ := yp
        simp only at hin hel hjn hem hxd
        obtain ⟨⟨px, pc, rfl⟩, ⟨py, pd, rfl⟩, _, _⟩ := hel.len
        obtain ⟨⟨qx, qc, rfl⟩, ⟨qy, qd, rfl⟩, _, _⟩ := hem.len
        have hcall := fun W (hW : Below wr.heap.size wr W) => cmpFd_any N ih xn yn x y _ _ _ _ W hxd (hel.below hW) (hem.below hW)
        obtain ⟨p0, p1, p2, p3, p4, p5, p6⟩ := hin.seven
        obtain ⟨q0, q1, q2, q3, q4, q5, q6⟩ := hjn.seven
        have hb2 : Below wr.heap.size wr ((wr.alloc (.cells #[.string xn, .int .i64 x.kind, .bool x.yes, .int .i64 x.num, .string x.text, .slice px x.list.length pc, .slice py x.fields.length pd] 68)).alloc (.cells #[.string yn, .int .i64 y.kind, .bool y.yes, .int .i64 y.num, .string y.text, .slice qx y.list.length qc, .slice qy y.fields.length qd] 68)) := ((Below.refl _ wr).alloc (Nat.le_refl _) _).alloc (by simp) _
        have hcall2 := hcall _ hb2
        obtain ⟨r, hr⟩ : ∃ r, r = cmpFd (xn, x) (yn, y) := ⟨_, rfl⟩
        rw [← hr] at hcall2 hstep
        clear hcall hin hjn hel hem hr hv ho
        by_cases hr0 : r = 0
        · have hr1 : (r == 0) = true := by rw [beq_iff_eq]; exact hr0
          have hr2 : (r != 0) = false := by rw [bne, hr1]; rfl
          have hE2 : Hid (cmpFs l m = cmpFs (l.drop (j + 1)) (m.drop (j + 1))) := Lib.hid (by rw [HE.out, hstep.out]; simp [hr0])
          clear hstep hr0
          go_wp2_with fail
          refine hcall2.mono ?_
          rintro e w2 ⟨rfl, hb3⟩
          have hb4 := hbr.trans ((hb2.trans (hb3.mono (by simp; omega))).mono hzr)
          clear hcall2 hb3 hb2
          go_wp2
          go_roundw
          case rel => (exact ⟨j + 1, by omega, by omega, by go_num, hb4, hE2⟩)
          case measure => simp [intOf]; omega
        · have hr1 : (r == 0) = false := by rw [beq_eq_false_iff_ne]; exact hr0
          have hr2 : (r != 0) = true := by rw [bne, hr1]; rfl
          have hE2 : Hid (cmpFs l m = r) := Lib.hid (by rw [HE.out, hstep.out]; simp [hr0])
          clear hstep
          go_wp2_with fail
          refine hcall2.mono ?_
          rintro e w2 ⟨rfl, hb3⟩
          have hb4 := hbr.trans ((hb2.trans (hb3.mono (by simp; omega))).mono hzr)
          clear hcall2 hb3 hb2
          go_wp2
          go_ret
          exact ⟨ret_int hE2.out.symm, hb4⟩
      · have hjm' : (m.length : Int) ≤ (j : Int) := by omega
        have hE2 : Hid (cmpFs l m = 1) := Lib.hid (by rw [HE.out, cmpFs_long hjl (by omega)])
        have hcl : ∃ b0 off lv' fv', a = some ⟨b0, off, none⟩ ∧ b0 < wr.heap.size ∧ InAt wr b0 (off + j * 7) (.string (l[j]).1 :: (l[j]).2.cells lv' fv') ∧ (l[j]).2.Is wr lv' fv' := by
          obtain ⟨b0, off, cc, lv', fv', e1, hbl, hin, hel⟩ := (hv.below hbr).field (i := j) hjl
          injection e1 with e1 e5 e3
          exact ⟨b0, off, lv', fv', e1, hbl, hin, hel⟩
        obtain ⟨b0, off, lv', fv', rfl, hbl, hin, hel⟩ := hcl
        generalize l[j] = xp at hin hel
        obtain ⟨xn, x⟩ := xp
        simp only at hin hel
        obtain ⟨⟨px, pc, rfl⟩, ⟨py, pd, rfl⟩, _, _⟩ := hel.len
        obtain ⟨p0, p1, p2, p3, p4, p5, p6⟩ := hin.seven
        have hb4 := hbr.trans (((Below.refl _ wr).alloc (Nat.le_refl _) (.cells #[.string xn, .int .i64 x.kind, .bool x.yes, .int .i64 x.num, .string x.text, .slice px x.list.length pc, .slice py x.fields.length pd] 68)).mono hzr)
        clear hin hel HE
        go_wp2
        go_ret
        exact ⟨ret_int hE2.out.symm, hb4⟩
    · have hge : ¬ (j : Int) < (l.length : Int) := by omega
      have hE2 : Hid (cmpFs l m = if l.length < m.length then -1 else 0) := Lib.hid (by rw [HE.out, cmpFs_end (by omega) hj2])
      clear HE hjl
      by_cases hlm : l.length < m.length
      · rw [if_pos hlm] at hE2
        have hlm' : (l.length : Int) < (m.length : Int) := by omega
        go_wp2
        go_ret
        exact ⟨ret_int hE2.out.symm, hbr⟩
      · rw [if_neg hlm] at hE2
        have hlm' : ¬ (l.length : Int) < (m.length : Int) := by omega
        go_wp2
        go_ret
        exact ⟨ret_int hE2.out.symm, hbr⟩

theorem cmp_kinds (v o : V) (h : v.kind ≠ o.kind) : v.cmp o = cmpI v.kind o.kind := by
  obtain ⟨q, y, n, t, l, f⟩ := v
  rw [V.cmp, if_pos (show q ≠ o.kind from h)]; rfl
theorem cmp_bool (v o : V) (h : v.kind = o.kind) (k : v.kind = 1) : v.cmp o = cmpYes v.yes o.yes := by
  obtain ⟨q, y, n, t, l, f⟩ := v
  have k : q = 1 := k
  rw [V.cmp, if_neg (fun g => g h), if_pos k]; rfl
theorem cmp_int (v o : V) (h : v.kind = o.kind) (k : v.kind = 2) : v.cmp o = cmpI v.num o.num := by
  obtain ⟨q, y, n, t, l, f⟩ := v
  have h : q = o.kind := h
  have k : q = 2 := k
  rw [V.cmp, if_neg (fun g => g h), if_neg (by omega), if_pos k]; rfl
theorem cmp_text (v o : V) (h : v.kind = o.kind) (k : v.kind = 3) : v.cmp o = cmpL v.text.data.toList o.text.data.toList := by
  obtain ⟨q, y, n, t, l, f⟩ := v
  have h : q = o.kind := h
  have k : q = 3 := k
  rw [V.cmp, if_neg (fun g => g h), if_neg (by omega), if_neg (by omega), if_pos k]; rfl
theorem cmp_list (v o : V) (h : v.kind = o.kind) (k : v.kind = 4) : v.cmp o = cmpVs v.list o.list := by
  obtain ⟨q, y, n, t, l, f⟩ := v
  have h : q = o.kind := h
  have k : q = 4 := k
  rw [V.cmp, if_neg (fun g => g h), if_neg (by omega), if_neg (by omega), if_neg (by omega), if_pos k]; rfl
theorem cmp_map (v o : V) (h : v.kind = o.kind) (k : v.kind = 5) : v.cmp o = cmpFs v.fields o.fields := by
  obtain ⟨q, y, n, t, l, f⟩ := v
  have h : q = o.kind := h
  have k : q = 5 := k
  rw [V.cmp, if_neg (fun g => g h), if_neg (by omega), if_neg (by omega), if_neg (by omega), if_neg (by omega), if_pos k]; rfl
theorem cmp_other (v o : V) (h : v.kind = o.kind) (k1 : v.kind ≠ 1) (k2 : v.kind ≠ 2) (k3 : v.kind ≠ 3) (k4 : v.kind ≠ 4) (k5 : v.kind ≠ 5) : v.cmp o = 0 := by
  obtain ⟨q, y, n, t, l, f⟩ := v
  have k1 : q ≠ 1 := k1
  have k2 : q ≠ 2 := k2
  have k3 : q ≠ 3 := k3
  have k4 : q ≠ 4 := k4
  have k5 : q ≠ 5 := k5
  rw [V.cmp, if_neg (fun g => g h), if_neg k1, if_neg k2, if_neg k3, if_neg k4, if_neg k5]

theorem two_boxes (w : World) (a b : Array Value) (t : TypeId) : Below w.heap.size w ((w.alloc (.cells a t)).alloc (.cells b t)) := ((Below.refl _ w).alloc (Nat.le_refl _) _).alloc (by simp) _

set_option maxHeartbeats 4000000 in
set_option maxRecDepth 100000 in
theorem cmp_step (N : Nat) (ih : CmpOK N) : CmpOK (N + 1) := by
  intro v o lv fv lo fo w hd hv ho
  obtain ⟨⟨px, pc, rfl⟩, ⟨py, pd, rfl⟩, _, _⟩ := hv.len
  obtain ⟨⟨qx, qc, rfl⟩, ⟨qy, qd, rfl⟩, _, _⟩ := ho.len
  have hb2 := two_boxes w #[.int .i64 v.kind, .bool v.yes, .int .i64 v.num, .string v.text, .slice px v.list.length pc, .slice py v.fields.length pd] #[.int .i64 o.kind, .bool o.yes, .int .i64 o.num, .string o.text, .slice qx o.list.length qc, .slice qy o.fields.length qd] 26
  by_cases hk : v.kind = o.kind
  · have hkn : (v.kind == o.kind) = true := by rw [beq_iff_eq]; exact hk
    have hkm : (v.kind != o.kind) = false := by rw [bne, hkn]; rfl
    by_cases k1 : v.kind = 1
    · have hE := Lib.hid (cmp_bool v o hk k1)
      have hcall := cmpFlags_any v.yes o.yes
      have g1 : (v.kind == 1) = true := by rw [beq_iff_eq]; exact k1
      clear hk hv ho hd k1
      go_enter Try.func13, Try.ntmps13
      go_wp2_with fail
      refine (hcall _).mono ?_
      rintro e w1 ⟨rfl, rfl⟩
      go_wp2
      go_ret
      exact ⟨ret_int hE.out.symm, hb2⟩
    · by_cases k2 : v.kind = 2
      · have hE := Lib.hid (cmp_int v o hk k2)
        have hcall := cmpInt_any v.num o.num
        have g1 : (v.kind == 1) = false := by rw [beq_eq_false_iff_ne]; exact k1
        have g2 : (v.kind == 2) = true := by rw [beq_iff_eq]; exact k2
        clear hk hv ho hd k1 k2
        go_enter Try.func13, Try.ntmps13
        go_wp2_with fail
        refine (hcall _).mono ?_
        rintro e w1 ⟨rfl, rfl⟩
        go_wp2
        go_ret
        exact ⟨ret_int hE.out.symm, hb2⟩
      · by_cases k3 : v.kind = 3
        · have hE := Lib.hid (cmp_text v o hk k3)
          have hcall := cmpText_any v.text o.text
          have g1 : (v.kind == 1) = false := by rw [beq_eq_false_iff_ne]; exact k1
          have g2 : (v.kind == 2) = false := by rw [beq_eq_false_iff_ne]; exact k2
          have g3 : (v.kind == 3) = true := by rw [beq_iff_eq]; exact k3
          clear hk hv ho hd k1 k2 k3
          go_enter Try.func13, Try.ntmps13
          go_wp2_with fail
          refine (hcall _).mono ?_
          rintro e w1 ⟨rfl, rfl⟩
          go_wp2
          go_ret
          exact ⟨ret_int hE.out.symm, hb2⟩
        · by_cases k4 : v.kind = 4
          · have hE := Lib.hid (cmp_list v o hk k4)
            have hcall := cmpList_any N ih v o (fun x hx => by have := dep_list (v := v) hx; omega) _ _ _ _ _ (V.Is.below hv hb2) (V.Is.below ho hb2)
            have g1 : (v.kind == 1) = false := by rw [beq_eq_false_iff_ne]; exact k1
            have g2 : (v.kind == 2) = false := by rw [beq_eq_false_iff_ne]; exact k2
            have g3 : (v.kind == 3) = false := by rw [beq_eq_false_iff_ne]; exact k3
            have g4 : (v.kind == 4) = true := by rw [beq_iff_eq]; exact k4
            clear hk hv ho hd k1 k2 k3 k4
            go_enter Try.func13, Try.ntmps13
            go_wp2_with fail
            refine hcall.mono ?_
            rintro e w1 ⟨rfl, hb3⟩
            have hb4 := hb2.trans (hb3.mono (by simp; omega))
            clear hcall hb3 hb2
            go_wp2
            go_ret
            exact ⟨ret_int hE.out.symm, hb4⟩
          · by_cases k5 : v.kind = 5
            · have hE := Lib.hid (cmp_map v o hk k5)
              have hcall := cmpFields_any N ih v o (fun x hx => by have := dep_fields (v := v) hx; omega) _ _ _ _ _ (V.Is.below hv hb2) (V.Is.below ho hb2)
              have g1 : (v.kind == 1) = false := by rw [beq_eq_false_iff_ne]; exact k1
              have g2 : (v.kind == 2) = false := by rw [beq_eq_false_iff_ne]; exact k2
              have g3 : (v.kind == 3) = false := by rw [beq_eq_false_iff_ne]; exact k3
              have g4 : (v.kind == 4) = false := by rw [beq_eq_false_iff_ne]; exact k4
              have g5 : (v.kind == 5) = true := by rw [beq_iff_eq]; exact k5
              clear hk hv ho hd k1 k2 k3 k4 k5
              go_enter Try.func13, Try.ntmps13
              go_wp2_with fail
              refine hcall.mono ?_
              rintro e w1 ⟨rfl, hb3⟩
              have hb4 := hb2.trans (hb3.mono (by simp; omega))
              clear hcall hb3 hb2
              go_wp2
              go_ret
              exact ⟨ret_int hE.out.symm, hb4⟩
            · have hE := Lib.hid (cmp_other v o hk k1 k2 k3 k4 k5)
              have g1 : (v.kind == 1) = false := by rw [beq_eq_false_iff_ne]; exact k1
              have g2 : (v.kind == 2) = false := by rw [beq_eq_false_iff_ne]; exact k2
              have g3 : (v.kind == 3) = false := by rw [beq_eq_false_iff_ne]; exact k3
              have g4 : (v.kind == 4) = false := by rw [beq_eq_false_iff_ne]; exact k4
              have g5 : (v.kind == 5) = false := by rw [beq_eq_false_iff_ne]; exact k5
              clear hk hv ho hd k1 k2 k3 k4 k5
              go_enter Try.func13, Try.ntmps13
              go_wp2
              go_ret
              exact ⟨ret_int hE.out.symm, hb2⟩
  · have hkn : (v.kind == o.kind) = false := by rw [beq_eq_false_iff_ne]; exact hk
    have hkm : (v.kind != o.kind) = true := by rw [bne, hkn]; rfl
    have hE := Lib.hid (cmp_kinds v o hk)
    have hcall := cmpKind_any v.kind o.kind
    clear hk hv ho hd
    go_enter Try.func13, Try.ntmps13
    go_wp2_with fail
    refine (hcall _).mono ?_
    rintro e w1 ⟨rfl, rfl⟩
    go_wp2
    go_ret
    exact ⟨ret_int hE.out.symm, hb2⟩

theorem cmp_all : ∀ N, CmpOK N
  | 0 => fun v o lv fv lo fo w hd _ _ => by
    cases v
    rw [V.dep] at hd
    omega
  | N + 1 => cmp_step N (cmp_all N)

theorem cmp_any (v o : V) (lv fv lo fo : Value) (w : World) (hv : v.Is w lv fv) (ho : o.Is w lo fo) :
    Calls Try.prog 13 #[.agg #[.int .i64 v.kind, .bool v.yes, .int .i64 v.num, .string v.text, lv, fv], .agg #[.int .i64 o.kind, .bool o.yes, .int .i64 o.num, .string o.text, lo, fo]] w fun e w' => e = .returned (.int .i64 (v.cmp o)) ∧ Below w.heap.size w w' :=
  cmp_all v.dep v o lv fv lo fo w (Nat.le_refl _) hv ho

set_option maxHeartbeats 4000000 in
theorem same_any (v o : V) (lv fv lo fo : Value) (w : World) (hv : v.Is w lv fv) (ho : o.Is w lo fo) :
    Calls Try.prog 15 #[.agg #[.int .i64 v.kind, .bool v.yes, .int .i64 v.num, .string v.text, lv, fv], .agg #[.int .i64 o.kind, .bool o.yes, .int .i64 o.num, .string o.text, lo, fo]] w fun e w' => e = .returned (.bool (v.cmp o == 0)) ∧ Below w.heap.size w w' := by
  obtain ⟨⟨px, pc, rfl⟩, ⟨py, pd, rfl⟩, _, _⟩ := hv.len
  obtain ⟨⟨qx, qc, rfl⟩, ⟨qy, qd, rfl⟩, _, _⟩ := ho.len
  have hb2 := two_boxes w #[.int .i64 v.kind, .bool v.yes, .int .i64 v.num, .string v.text, .slice px v.list.length pc, .slice py v.fields.length pd] #[.int .i64 o.kind, .bool o.yes, .int .i64 o.num, .string o.text, .slice qx o.list.length qc, .slice qy o.fields.length qd] 26
  have hcall := cmp_any v o _ _ _ _ _ (V.Is.below hv hb2) (V.Is.below ho hb2)
  generalize v.cmp o = r at hcall
  clear hv ho
  go_enter Try.func15, Try.ntmps15
  go_wp2_with fail
  refine hcall.mono ?_
  rintro e w1 ⟨rfl, hb3⟩
  have hb4 := hb2.trans (hb3.mono (by simp; omega))
  clear hcall hb3 hb2
  go_wp2
  go_ret
  exact ⟨rfl, hb4⟩

end Go.Proofs.Ytacphlceggbfcaa
