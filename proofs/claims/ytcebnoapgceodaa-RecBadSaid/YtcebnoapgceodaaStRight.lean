/-
  store, rec: which writes, which commits are right: the contracts.
-/
import Derived.Test.YtcebnoapgceodaaStWr
import Derived.Test.YtcebnoapgceodaaMid
import Derived.StillTailTactics
import Derived.Laws.Cover1
namespace Go.Proofs.Ytcebnoapgceodaa
open Go.RowKit

set_option linter.unusedVariables false

def isR (x : Wr) : Bool := !x.key.toList.isEmpty && decide (x.key.size ≤ 400) && decide (x.val.size ≤ 4096) && !(x.gone && !x.val.toList.isEmpty)
def upR (p x : Wr) : Bool := !(Op.bytesLess x.key.toList p.key.toList || x.key.toList == p.key.toList)
def okR (ws : List Wr) (i : Nat) : Bool := match ws[i]? with
  | some x => isR x && (match i with | 0 => true | j + 1 => match ws[j]? with | some p => upR p x | none => true)
  | none => true
def rightW (ws : List Wr) (k : Nat) : Bool := (List.range k).all (okR ws)
theorem rightW_succ (ws : List Wr) (k : Nat) : rightW ws (k + 1) = (rightW ws k && okR ws k) := by
  unfold rightW
  rw [List.range_succ, List.all_append]
  simp
theorem rightW_get {ws : List Wr} {n i : Nat} (h : rightW ws n = true) (hi : i < n) : okR ws i = true := List.all_eq_true.1 h i (List.mem_range.2 hi)
theorem rightW_false {ws : List Wr} {k : Nat} (h : okR ws k = false) : ∀ {n}, k < n → rightW ws n = false := fun {n} hk => by
  cases hr : rightW ws n with
  | false => rfl
  | true => rw [rightW_get hr hk] at h; cases h
theorem isR_of {ws : List Wr} {i : Nat} (hi : i < ws.length) (h : okR ws i = true) : isR ws[i] = true := by
  unfold okR at h
  rw [List.getElem?_eq_getElem hi] at h
  simp only [Bool.and_eq_true] at h
  exact h.1
theorem isR_size {x : Wr} (h : isR x = true) : x.key.size ≤ 400 ∧ x.val.size ≤ 4096 := by
  unfold isR at h
  simp only [Bool.and_eq_true, decide_eq_true_eq] at h
  exact ⟨h.1.1.2, h.1.2⟩

set_option maxHeartbeats 1000000 in
set_option maxRecDepth 100000 in
theorem isR_any (x : Wr) (w : World) :
    Calls Try.prog 118 #[.agg #[.string x.key, .string x.val, .bool x.gone]] w fun e w' => e = .returned (.bool (isR x)) ∧ Below w.heap.size w w' := by
  obtain ⟨k, v, g⟩ := x
  go_enter Try.func118, Try.ntmps118
  go_wp2
  all_goals
    go_ret
    refine ⟨?_, (Below.refl _ w).alloc (Nat.le_refl _) _⟩
    simp_all [isR]
  all_goals first
    | (intro a b; exfalso; omega)
    | (have e1 : k.size ≤ 400 := by omega
       have e2 : v.size ≤ 4096 := by omega
       simp [e1, e2])

attribute [local irreducible] wpStill

theorem leq_run (s t : ByteArray) (W : World) : (binOp .leq 9 (.string s) (.string t)).run Try.prog W = .ok (.bool (Op.bytesLess s.toList t.toList || s.toList == t.toList)) W := by
  rw [binOp_string_leq]
  rfl
attribute [-go_sem] binOp_string_leq

set_option maxHeartbeats 2000000 in
set_option maxRecDepth 100000 in
theorem areRight_any {w : World} {a : Option Addr} {len cap : Nat} {ws : List Wr} (h : WrsIs w a ws) (hl : ws.length = len) (hle : len ≤ 1000000) :
    Calls Try.prog 72 #[.slice a len cap] w fun e w' => e = .returned (.bool (rightW ws len)) ∧ Below w.heap.size w w' := by
  have HW := Lib.hid h
  have HL := Lib.hid hl
  clear h hl
  go_enter Try.func72, Try.ntmps72
  go_wp2_with fail
  go_loopw [7] (fun i wr => ∃ k : Nat, k ≤ len ∧ i = .int .i64 (k : Int) ∧ Hid (rightW ws k = true ∧ Below w.heap.size w wr)) (fun i _ => len - (intOf i).toNat)
  case atStart => exact ⟨0, Nat.zero_le _, rfl, Lib.hid ⟨rfl, Below.refl _ _⟩⟩
  case round =>
    obtain ⟨k, hk, rfl, hst⟩ := hrel
    by_cases hlt : k < len
    · have hk2 : k < ws.length := by rw [HL.out]; exact hlt
      obtain ⟨b, off, rfl, hb, hin, hall⟩ := HW.out.at_ k hk2
      obtain ⟨x, hx⟩ : ∃ x, x = ws[k] := ⟨_, rfl⟩
      rw [← hx] at hin
      have hin2 : WrIn wr b (off + k * 3) x := by
        obtain ⟨h0, h1, h2⟩ := hin
        exact ⟨(hst.out.2.cell (p := ⟨b, _, none⟩) hb).trans h0, (hst.out.2.cell (p := ⟨b, _, none⟩) hb).trans h1, (hst.out.2.cell (p := ⟨b, _, none⟩) hb).trans h2⟩
      obtain ⟨q0, q1, q2⟩ := hin2
      have hok : okR ws k = (isR x && (match k with | 0 => true | j + 1 => match ws[j]? with | some p => upR p x | none => true)) := by
        unfold okR
        rw [List.getElem?_eq_getElem hk2, ← hx]
      have HCALL := Lib.hid (isR_any x ((wr.alloc (.cells #[.string x.key, .string x.val, .bool x.gone] 48)).drew))
      have HK : Hid (∀ w4, Below ((wr.alloc (.cells #[.string x.key, .string x.val, .bool x.gone] 48)).drew).heap.size ((wr.alloc (.cells #[.string x.key, .string x.val, .bool x.gone] 48)).drew) w4 →
          (w4.cell? ⟨wr.heap.size, 0, none⟩ = some (.string x.key) ∧ w4.cell? ⟨wr.heap.size, 1, none⟩ = some (.string x.val) ∧ w4.cell? ⟨wr.heap.size, 2, none⟩ = some (.bool x.gone)) ∧ Below w.heap.size w w4 ∧
          ∀ j (hj : j + 1 = k), w4.cell? ⟨b, off + j * 3, none⟩ = some (.string (ws[j]'(by omega)).key)) := Lib.hid fun w4 hb4 => by
        have hz : ((wr.alloc (.cells #[.string x.key, .string x.val, .bool x.gone] 48)).drew).heap.size = wr.heap.size + 1 := by show (wr.alloc (.cells #[.string x.key, .string x.val, .bool x.gone] 48)).heap.size = _; simp
        have hbw := (((Below.refl _ wr).alloc (Nat.le_refl _) (.cells #[.string x.key, .string x.val, .bool x.gone] 48)).drew).trans (hb4.mono (by omega))
        have h0 : ∀ i : Nat, w4.cell? ⟨wr.heap.size, i, none⟩ = (wr.alloc (.cells #[.string x.key, .string x.val, .bool x.gone] 48)).cell? ⟨wr.heap.size, i, none⟩ := fun i => hb4.cell (by rw [hz]; show wr.heap.size < wr.heap.size + 1; omega)
        have hbf := hst.out.2.trans (hbw.mono hst.out.2.size)
        refine ⟨⟨?_, ?_, ?_⟩, hbf, fun j hj => (hbf.cell (p := ⟨b, _, none⟩) hb).trans (hall j (by omega)).1⟩ <;> (rw [h0]; simp)
      have HLT := Lib.hid hlt
      have HOK := Lib.hid hok
      have HK2 := Lib.hid hk2
      have HX := Lib.hid hx
      clear hin hall hb hok hx
      cases hr : isR x with
      | false =>
        rw [hr] at HCALL HOK
        have HF : Hid (rightW ws len = false) := Lib.hid (rightW_false (by rw [HOK.out]; rfl) hlt)
        clear hr hst
        go_wp2_with fail
        refine wp_region_mid 1 _ (by kernel_rfl) (by kernel_rfl) rfl ?_
        change wpStill _ _ (World.drew _) (fun a' => MidCall _ _ _ _ _ a' (World.drew _)) _ _
        simp only [List.take_succ_cons, List.take_zero, List.drop_succ_cons, List.drop_zero]
        repeat still_step
        refine wpStill_nil ?_
        refine midCall_of (by rfl) _ _ ?_ HCALL.out ?_
        · go_simp
        rintro w4 hb4
        obtain ⟨⟨s1, s2, s3⟩, hb5, hprev⟩ := HK.out _ hb4
        have HB5 := Lib.hid hb5
        clear hb4 hb5
        repeat still_step
        refine wpStill_nil ?_
        go_wp2
        go_ret
        exact ⟨by rw [HF.out]; rfl, HB5.out⟩
      | true =>
        rw [hr] at HCALL HOK
        clear hr
        by_cases hk0 : k = 0
        · have HS : Hid (rightW ws (k + 1) = true) := Lib.hid (by
            rw [rightW_succ, hst.out.1, HOK.out, hk0]
            rfl)
          have hkI : ¬ (0 : Int) < (k : Int) := by omega
          have hkN : ¬ 0 < k := by omega
          clear hst hk0
          go_wp2_with fail
          refine wp_region_mid 1 _ (by kernel_rfl) (by kernel_rfl) rfl ?_
          change wpStill _ _ (World.drew _) (fun a' => MidCall _ _ _ _ _ a' (World.drew _)) _ _
          simp only [List.take_succ_cons, List.take_zero, List.drop_succ_cons, List.drop_zero]
          repeat still_step
          refine wpStill_nil ?_
          refine midCall_of (by rfl) _ _ ?_ HCALL.out ?_
          · go_simp
          rintro w4 hb4
          obtain ⟨⟨s1, s2, s3⟩, hb5, hprev⟩ := HK.out _ hb4
          have HB5 := Lib.hid hb5
          clear hb4 hb5
          repeat still_step
          refine wpStill_nil ?_
          clear hprev
          go_wp2
          go_roundw
          case rel => exact ⟨k + 1, by have := HLT.out; omega, by simp, Lib.hid ⟨HS.out, HB5.out⟩⟩
          case measure => have := HLT.out; simp [intOf]; omega
        · obtain ⟨j, hj⟩ : ∃ j, k = j + 1 := ⟨k - 1, by omega⟩
          have hjl : j < ws.length := by have := HK2.out; omega
          obtain ⟨y, hy⟩ : ∃ y, y = ws[j] := ⟨_, rfl⟩
          have hok2 : okR ws k = upR y x := by
            rw [HOK.out]
            simp only [Bool.true_and]
            rw [hj]
            simp only
            rw [List.getElem?_eq_getElem hjl, ← hy]
          have HJ := Lib.hid hok2
          have HR := Lib.hid hst.out.1
          have hkI : (0 : Int) < (k : Int) := by omega
          have hkN : 0 < k := by omega
          have hw1 : IntKind.i64.wrap ((k : Int) - 1) = (j : Int) := by rw [IntKind.wrap_i64]; omega
          have hw2 : wrap64 ((k : Int) - 1) = (j : Int) := by unfold wrap64; omega
          have hcmp := leq_run x.key y.key
          have HY := Lib.hid hy
          have hjI : (j : Int) < (len : Int) := by omega
          have hjN : j < len := by omega
          have HJK := Lib.hid hj
          clear hok2 hst hk0 hy hj
          cases hu : upR y x with
          | true =>
            rw [show (Op.bytesLess x.key.toList y.key.toList || x.key.toList == y.key.toList) = false by unfold upR at hu; simpa using hu] at hcmp
            have HS : Hid (rightW ws (k + 1) = true) := Lib.hid (by rw [rightW_succ, HR.out, HJ.out, hu]; rfl)
            clear hu
            go_wp2_with fail
            refine wp_region_mid 1 _ (by kernel_rfl) (by kernel_rfl) rfl ?_
            change wpStill _ _ (World.drew _) (fun a' => MidCall _ _ _ _ _ a' (World.drew _)) _ _
            simp only [List.take_succ_cons, List.take_zero, List.drop_succ_cons, List.drop_zero]
            repeat still_step
            refine wpStill_nil ?_
            refine midCall_of (by rfl) _ _ ?_ HCALL.out ?_
            · go_simp
            rintro w4 hb4
            obtain ⟨⟨s1, s2, s3⟩, hb5, hprev⟩ := HK.out _ hb4
            have HB5 := Lib.hid hb5
            clear hb4 hb5
            have hp := hprev j HJK.out.symm
            rw [← HY.out] at hp
            clear hprev
            repeat still_step
            refine wpStill_nil ?_
            go_wp2
            go_roundw
            case rel => exact ⟨k + 1, by have := HLT.out; omega, by simp, Lib.hid ⟨HS.out, HB5.out⟩⟩
            case measure => have := HLT.out; simp [intOf]; omega
          | false =>
            rw [show (Op.bytesLess x.key.toList y.key.toList || x.key.toList == y.key.toList) = true by unfold upR at hu; cases hq : (Op.bytesLess x.key.toList y.key.toList || x.key.toList == y.key.toList) with | true => rfl | false => rw [hq] at hu; cases hu] at hcmp
            have HF : Hid (rightW ws len = false) := Lib.hid (rightW_false (k := k) (by rw [HJ.out, hu]) HLT.out)
            clear hu
            go_wp2_with fail
            refine wp_region_mid 1 _ (by kernel_rfl) (by kernel_rfl) rfl ?_
            change wpStill _ _ (World.drew _) (fun a' => MidCall _ _ _ _ _ a' (World.drew _)) _ _
            simp only [List.take_succ_cons, List.take_zero, List.drop_succ_cons, List.drop_zero]
            repeat still_step
            refine wpStill_nil ?_
            refine midCall_of (by rfl) _ _ ?_ HCALL.out ?_
            · go_simp
            rintro w4 hb4
            obtain ⟨⟨s1, s2, s3⟩, hb5, hprev⟩ := HK.out _ hb4
            have HB5 := Lib.hid hb5
            clear hb4 hb5
            have hp := hprev j HJK.out.symm
            rw [← HY.out] at hp
            clear hprev
            repeat still_step
            refine wpStill_nil ?_
            go_wp2
            go_ret
            exact ⟨by rw [HF.out]; rfl, HB5.out⟩
    · obtain rfl : k = len := by omega
      go_wp2
      go_ret
      exact ⟨by rw [hst.out.1]; rfl, hst.out.2⟩

/-- which commits have bytes -/
def rightL (ws : List Wr) : Bool := decide (ws.length ≤ 200) && rightW ws ws.length

set_option maxHeartbeats 1000000 in
theorem right_any {w : World} {a : Option Addr} {len cap : Nat} {ws : List Wr} (h : WrsIs w a ws) (hl : ws.length = len) (hle : len ≤ 1000000) :
    Calls Try.prog 112 #[.slice a len cap] w fun e w' => e = .returned (.bool (rightL ws)) ∧ Below w.heap.size w w' := by
  have hA := Lib.hid (areRight_any (cap := cap) h hl hle)
  have HR : Hid (rightL ws = (decide (len ≤ 200) && rightW ws len)) := Lib.hid (by unfold rightL; rw [hl])
  obtain ⟨r, hr⟩ : ∃ r, r = rightW ws len := ⟨_, rfl⟩
  rw [← hr] at hA HR
  clear h hl hr
  by_cases h2 : len ≤ 200
  · have h2I : (len : Int) ≤ 200 := by omega
    go_enter Try.func112, Try.ntmps112
    go_wp2_with fail
    refine hA.out.mono ?_
    rintro e w1 ⟨rfl, hb⟩
    have HB := Lib.hid hb
    clear hb hA
    go_wp2
    all_goals
      go_ret
      exact ⟨by rw [HR.out]; simp [h2], HB.out⟩
  · have h2I : ¬ (len : Int) ≤ 200 := by omega
    go_enter Try.func112, Try.ntmps112
    go_wp2
    all_goals
      go_ret
      exact ⟨by rw [HR.out]; simp [h2], Below.refl _ _⟩

end Go.Proofs.Ytcebnoapgceodaa
