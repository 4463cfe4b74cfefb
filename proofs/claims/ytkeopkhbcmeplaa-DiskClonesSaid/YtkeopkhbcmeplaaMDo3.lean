/-
  The law's model: Do: Append. (Written by gendo.py 3.)
-/
import Derived.Test.YtkeopkhbcmeplaaMDo2
import Derived.Deep.RegionWith
namespace Go.Proofs.Ytkeopkhbcmeplaa
open Go.RowKit

theorem len_sum {gs : List FileS} {f : FileS} (h : f ∈ gs) : f.data.length ≤ sumF gs := by
  induction gs with
  | nil => cases h
  | cons y r ih =>
    rw [sumF] at ih ⊢
    rw [List.map_cons, List.sum_cons]
    rcases List.mem_cons.1 h with rfl | h
    · omega
    · have := ih h; omega

set_option maxHeartbeats 4000000 in
set_option maxRecDepth 100000 in
theorem do_0 {w : World} {B m : Nat} {v : Value} {M : MS} (h : MAt w B m v M) (a : ActS) (hda : a.data.size ≤ 1000000) (hr : RiseF M.files) (hn : M.files.length ≤ 100000) (hb : 0 ≤ M.size ∧ M.size ≤ 1048576 ∧ (sumF M.files : Int) ≤ 1048576 ∧ -9223372036854775807 ≤ M.falls ∧ M.falls ≤ 9223372036854775807) (hd : M.down = false) (hf : M.falls ≠ 0) (M1 : MS) (hM1 : M1 = { M with falls := if 0 < M.falls then M.falls - 1 else M.falls }) (hK : a.K = 0) :
    Calls Try.prog 14 #[.pointer (some ⟨m, 0, none⟩), .agg #[.int .i64 a.k, .int .i64 a.n, .string a.name, .string a.dest, .string a.data]] w fun e w' => DoPost w w' B m v (M1.app a.name a.data) e := by
  have hk := act_k a
  have hA : MAt (w.alloc (.cells #[.int .i64 a.k, .int .i64 a.n, .string a.name, .string a.dest, .string a.data] 32)) B m v M := h.below ((Below.refl w.heap.size w).alloc (Nat.le_refl _) _)
  have hT : MTurn w (w.alloc (.cells #[.int .i64 a.k, .int .i64 a.n, .string a.name, .string a.dest, .string a.data] 32)) m v := MTurn.below ((Below.refl w.heap.size w).alloc (Nat.le_refl _) _)
  have hX : ABox (w.alloc (.cells #[.int .i64 a.k, .int .i64 a.n, .string a.name, .string a.dest, .string a.data] 32)) w.heap.size a := heap_alloc_new w _
  rw [hK] at hk
  obtain ⟨⟨c0, c1, c2, c3⟩, f0, f1, f2, f3⟩ := h.cells
  have hm := h.lt.1
  rw [hd] at c2
  have hf0 : (M.falls == 0) = false := by rw [beq_eq_false_iff_ne]; exact hf
  have HM := Lib.hid (And.intro h (And.intro hr (And.intro hn hb)))
  have HM1 := Lib.hid hM1
  have HU : Hid (∀ Z, Z = M1.falls → MAt ((w.setCell ⟨m, 3, none⟩ (.int .i64 Z)).alloc (.cells #[.int .i64 a.k, .int .i64 a.n, .string a.name, .string a.dest, .string a.data] 32)) B m v M1 ∧ ABox ((w.setCell ⟨m, 3, none⟩ (.int .i64 Z)).alloc (.cells #[.int .i64 a.k, .int .i64 a.n, .string a.name, .string a.dest, .string a.data] 32)) w.heap.size a ∧ MTurn w ((w.setCell ⟨m, 3, none⟩ (.int .i64 Z)).alloc (.cells #[.int .i64 a.k, .int .i64 a.n, .string a.name, .string a.dest, .string a.data] 32)) m v) := Lib.hid fun Z hZ => by
    subst hZ
    have hS := h.set (M' := M1) 3 (.int .i64 M1.falls) (by rw [hM1]) (by rw [hM1]; rfl)
    have hb9 := (Below.refl (w.setCell ⟨m, 3, none⟩ (.int .i64 M1.falls)).heap.size (w.setCell ⟨m, 3, none⟩ (.int .i64 M1.falls))).alloc (Nat.le_refl _) (.cells #[.int .i64 a.k, .int .i64 a.n, .string a.name, .string a.dest, .string a.data] 32)
    refine ⟨hS.1.below hb9, ?_, hS.2.trans (MTurn.below hb9) (VNew.refl _ _)⟩
    have hz : (w.setCell ⟨m, 3, none⟩ (.int .i64 M1.falls)).heap.size = w.heap.size := by simp [World.setCell]
    have := heap_alloc_new (w.setCell ⟨m, 3, none⟩ (.int .i64 M1.falls)) (.cells #[.int .i64 a.k, .int .i64 a.n, .string a.name, .string a.dest, .string a.data] 32)
    rw [hz] at this
    exact this
  have HV : Hid (M1.falls = M.falls → MAt (w.alloc (.cells #[.int .i64 a.k, .int .i64 a.n, .string a.name, .string a.dest, .string a.data] 32)) B m v M1 ∧ ABox (w.alloc (.cells #[.int .i64 a.k, .int .i64 a.n, .string a.name, .string a.dest, .string a.data] 32)) w.heap.size a ∧ MTurn w (w.alloc (.cells #[.int .i64 a.k, .int .i64 a.n, .string a.name, .string a.dest, .string a.data] 32)) m v) := Lib.hid fun hZ => by
    have e : M1 = M := by rw [hM1] at hZ ⊢; show MS.mk _ _ _ _ = _; have hZ : (if 0 < M.falls then M.falls - 1 else M.falls) = M.falls := hZ; rw [hZ]
    rw [e]
    exact ⟨hA, hX, hT⟩
  have HFL : Hid (M1.falls = if 0 < M.falls then M.falls - 1 else M.falls) := Lib.hid (by rw [hM1])
  have HFI : Hid (M1.files = M.files ∧ M1.size = M.size) := Lib.hid (by rw [hM1]; exact ⟨rfl, rfl⟩)
  have hw0 : IntKind.i64.wrap (M.falls - 1) = M.falls - 1 := by rw [IntKind.wrap_i64]; omega
  clear hA hT hX h hd hM1 hf hr
  go_enter Try.func14, Try.ntmps14
  go_upto_if 41 with (fail)
  go_cut [4] (fun _ wx => Hid (MAt wx B m v M1 ∧ ABox wx w.heap.size a ∧ MTurn w wx m v))
  case first =>
    by_cases hp : 0 < M.falls
    · have HZ := Lib.hid (HU.out (M.falls - 1) (by rw [HFL.out, if_pos hp]))
      clear HU HV HFL HFI HM HM1
      go_wp2
      go_meet
      exact HZ
    · have HZ := Lib.hid (HV.out (by rw [HFL.out, if_neg hp]))
      clear HU HV HFL HFI HM HM1
      go_wp2
      go_meet
      exact HZ
  case rest =>
    have HC := hcut
    have hm1 := HC.out.1.lt.1
    have hb1 := HC.out.2.1.lt
    have HFD := Lib.hid (find_any HC.out.1 (by rw [HFI.out.1]; omega) a.name)
    obtain ⟨x0, x1, x2, x3, x4⟩ := HC.out.2.1.five
    clear hcut HU HV HFL hw0 hf0 c0 c1 c2 c3 f0 f1 f2 f3 hm
    go_wp2_with fail
    refine HFD.out.mono ?_
    rintro e w2 ⟨rfl, hb2⟩
    have hM2 := HC.out.1.below hb2
    have hX2 : ABox w2 w.heap.size a := (hb2.block _ hb1).trans HC.out.2.1
    have hT2 := HC.out.2.2.trans (MTurn.below hb2) (VNew.refl _ _)
    obtain ⟨x0, x1, x2, x3, x4⟩ := hX2.five
    have hm2 := hM2.lt.1
    have hb3 := hX2.lt
    clear hb2 hm1 hb1 HC HFD
    have HNO : Hid (nameB a.name = false → DoPost w w2 B m v (M1.app a.name a.data) (.returned (.int .i64 1))) := Lib.hid (fun hq => by unfold MS.app; rw [if_pos hq]; exact ⟨rfl, ⟨v, hM2, VNew.refl _ _⟩, hT2⟩)
    by_cases hemp : a.name.toList = []
    · have HF := Lib.hid (HNO.out (empty_not_name hemp))
      have e4 : a.name.toList.isEmpty = true := by rw [hemp]; rfl
      clear hM2 hX2 hT2 HM HM1 HFI HNO
      go_wp2
      go_ret
      exact HF.out
    have e4 : a.name.toList.isEmpty = false := by simpa using hemp
    by_cases hlong : (40 : Int) < (a.name.size : Int)
    · have HF := Lib.hid (HNO.out (long_not_name hlong))
      clear hM2 hX2 hT2 HM HM1 HFI HNO
      go_wp2
      go_ret
      exact HF.out
    have hnb := name_yes hemp hlong
    clear HNO
    have HNB := Lib.hid hnb
    have HRM : Hid (∀ W, Below w2.heap.size w2 W → Calls Try.prog 29 #[.pointer (some ⟨m, 0, none⟩)] W fun e w' => e = .returned (.int .i64 M1.room) ∧ Below W.heap.size W w') := Lib.hid fun W hB =>
      mroom_any (hM2.below hB) (by rw [HFI.out.2]; exact hb.1) (by rw [HFI.out.2]; exact hb.2.1) (by rw [HFI.out.1]; exact hb.2.2.1) (by rw [HFI.out.1]; omega)
    have HM2 := Lib.hid (And.intro hM2 (And.intro hX2 hT2))
    have HB3 := Lib.hid hb3
    clear hM2 hX2 hT2 hnb
    go_upto_region 15 with (fail)
    go_cut [73] (fun s wx => s = .bool (decide (M1.room < (a.data.size : Int))) ∧ Hid (Below w2.heap.size w2 wx))
    case first =>
      go_region_with ((go_at_call 29; refine (HRM.out _ ?_).mono ?_; exact (Below.refl _ w2).drew; rintro e w4 ⟨rfl, hb4⟩; have x4' : w4.cell? ⟨w.heap.size, 4, none⟩ = some (.string a.data) := (hb4.cell (p := ⟨w.heap.size, 4, none⟩) HB3.out).trans x4))
      all_goals
        go_wp2_with fail
        go_meet
        exact ⟨rfl, Lib.hid ((Below.refl w2.heap.size w2).drew.trans hb4)⟩
    case rest =>
      obtain ⟨rfl, HBC⟩ := hcut
      have hM4 := HM2.out.1.below HBC.out
      have hX4 : ABox wc w.heap.size a := (HBC.out.block _ HB3.out).trans HM2.out.2.1
      have hT4 := HM2.out.2.2.trans (MTurn.below HBC.out) (VNew.refl _ _)
      obtain ⟨x0, x1, x2, x3, x4⟩ := hX4.five
      have hb3 := hX4.lt
      have hm2 := hM4.lt.1
      clear HRM HBC HB3
      by_cases hroom : M1.room < (a.data.size : Int)
      · have HF : Hid (DoPost w wc B m v (M1.app a.name a.data) (.returned (.int .i64 7))) := Lib.hid (by
          unfold MS.app
          rw [if_neg (by rw [HNB.out]; simp), if_pos hroom]
          exact ⟨rfl, ⟨v, hM4, VNew.refl _ _⟩, hT4⟩)
        clear hM4 hX4 hT4 HM2 HM HM1 HFI
        go_wp2
        go_ret
        exact HF.out
      have hrd : decide (M1.room < (a.data.size : Int)) = false := decide_eq_false hroom
      have HRO := Lib.hid hroom
      have hda2 : (a.data.size : Int) ≤ 1000000 := by omega
      clear hroom
      cases hat : isAt (bl a.name) M1.files with
      | false =>
        have hcat : (⟨#[]⟩ : ByteArray) ++ a.data = a.data := bl_inj (by rw [bl_append]; rfl)
        have hmf : mfile (bl a.name) M1.files = ⟨bl a.name, [], 0⟩ := by unfold mfile; rw [hat]; rfl
        have hbA : Below wc.heap.size wc (wc.alloc (.cells #[.string a.name, .string a.data, .int .i64 0] 45)) := (Below.refl _ wc).alloc (Nat.le_refl _) _
        have HP : Hid (Calls Try.prog 30 #[.pointer (some ⟨m, 0, none⟩), .agg #[.string a.name, .string a.data, .int .i64 0]] (wc.alloc (.cells #[.string a.name, .string a.data, .int .i64 0] 45)) fun e w' => e = .returned (.tuple #[]) ∧ DoPost w w' B m v (M1.app a.name a.data) (.returned (.int .i64 0))) := Lib.hid (by
          refine (mput_any (hM4.below hbA) (by rw [HFI.out.1]; exact hn) ⟨bl a.name, bl a.data, 0⟩ a.name a.data (of_bl _).symm (of_bl _).symm).mono ?_
          rintro e w9 ⟨rfl, ⟨v9, p1, p2⟩, p3⟩
          refine ⟨rfl, ?_⟩
          unfold MS.app
          rw [if_neg (by rw [HNB.out]; simp), if_neg HRO.out, hmf]
          have hT5 := hT4.trans (MTurn.below hbA) (VNew.refl _ _)
          exact ⟨rfl, ⟨v9, p1, (VNew.refl w v).trans p2 hT5.2.2.2.1⟩, hT5.trans p3 (VNew.refl _ _)⟩)
        clear hM4 hX4 hT4 HM2 HM HM1 HFI hbA hmf
        go_wp2_with fail
        refine HP.out.mono ?_
        rintro e w6 ⟨rfl, hF6⟩
        have HF6 := Lib.hid hF6
        clear hF6
        go_wp2
        go_ret
        exact HF6.out
      | true =>
        obtain ⟨hnm, hilt, hfile, hset⟩ := at_file hat
        obtain ⟨va, vc, rfl, hvc⟩ := hM4.2.1.form
        obtain ⟨g, rfl, hg0, hg⟩ := hM4.2.1.blk (by omega)
        obtain ⟨d0, d1, d2⟩ := hM4.2.1.cell _ hilt
        rw [hfile hilt] at d0 d1 d2
        have k0 := World.ownsRow.frozenAt hM4.2.1 ((hd (bl a.name) M1.files).length * 3)
        have k1 := World.ownsRow.frozenAt hM4.2.1 ((hd (bl a.name) M1.files).length * 3 + 1)
        have k2 := World.ownsRow.frozenAt hM4.2.1 ((hd (bl a.name) M1.files).length * 3 + 2)
        have hrow := fun f j u hj he => hM4.2.1.set rfl _ j u f hilt hj he
        have hilen : (((hd (bl a.name) M1.files).length : Nat) : Int) < (M1.files.length : Int) := by omega
        obtain ⟨c0, c1, c2, c3⟩ := hM4.cells.1
        obtain ⟨fl0, hfl⟩ : ∃ fl0, fl0 = mfile (bl a.name) M1.files := ⟨_, rfl⟩
        rw [← hfl] at hnm d0 d1 d2
        have hne : g ≠ m := fun e => hM4.2.1.ne hM4.1 (by rw [e]; rfl)
        have hgx : g ≠ w.heap.size := hX4.ne hM4.2.1
        have hsz : (⟨fl0.data.toArray⟩ : ByteArray).size = fl0.data.length := by rw [← bl_length, bl_of]
        obtain ⟨dt, hdt⟩ : ∃ dt : ByteArray, dt = ⟨fl0.data.toArray⟩ := ⟨_, rfl⟩
        obtain ⟨nm, hnm2⟩ : ∃ nm : ByteArray, nm = ⟨fl0.name.toArray⟩ := ⟨_, rfl⟩
        rw [← hdt] at d1 hsz
        rw [← hnm2] at d0
        have HSZ := Lib.hid (And.intro hsz (And.intro hdt hnm2))
        clear hsz hdt hnm2
        have HFL := Lib.hid (And.intro hfl hfile)
        have HNM := Lib.hid hnm
        clear hfl hnm hfile
        have hdt2 : (dt.size : Int) ≤ 1048576 := by
          have h1 := len_sum (List.getElem_mem hilt)
          rw [HFL.out.2 hilt, ← HFL.out.1, ← HSZ.out.1, HFI.out.1] at h1
          have h2 := hb.2.2.1
          omega
        have hbA : Below wc.heap.size wc (wc.alloc (.cells #[.string nm, .string (dt ++ a.data), .int .i64 fl0.safe] 45)) := (Below.refl _ wc).alloc (Nat.le_refl _) _
        have HP : Hid (Calls Try.prog 30 #[.pointer (some ⟨m, 0, none⟩), .agg #[.string nm, .string (dt ++ a.data), .int .i64 fl0.safe]] (wc.alloc (.cells #[.string nm, .string (dt ++ a.data), .int .i64 fl0.safe] 45)) fun e w' => e = .returned (.tuple #[]) ∧ DoPost w w' B m (.slice (some ⟨g, 0, none⟩) M1.files.length vc) (M1.app a.name a.data) (.returned (.int .i64 0))) := Lib.hid (by
          refine (mput_any (hM4.below hbA) (by rw [HFI.out.1]; exact hn) ⟨fl0.name, fl0.data ++ bl a.data, fl0.safe⟩ nm (dt ++ a.data) HSZ.out.2.2 (bl_inj (by show bl (dt ++ a.data) = bl ⟨(fl0.data ++ bl a.data).toArray⟩; simp only [HSZ.out.2.1, bl_append, bl_of]))).mono ?_
          rintro e w9 ⟨rfl, ⟨v9, p1, p2⟩, p3⟩
          refine ⟨rfl, ?_⟩
          unfold MS.app
          rw [if_neg (by rw [HNB.out]; simp), if_neg HRO.out, ← HFL.out.1]
          have hT5 := hT4.trans (MTurn.below hbA) (VNew.refl _ _)
          exact ⟨rfl, ⟨v9, p1, (VNew.refl w _).trans p2 hT5.2.2.2.1⟩, hT5.trans p3 (VNew.refl _ _)⟩)
        generalize hgi : (hd (bl a.name) M1.files).length = i at hilt d0 d1 d2 k0 k1 k2 hilen ⊢
        clear hgi hM4 hX4 hT4 HM2 HM HM1 HFI hrow hset HFL HNM HSZ hilt hbA
        go_wp2_with fail
        refine HP.out.mono ?_
        rintro e w6 ⟨rfl, hF6⟩
        have HF6 := Lib.hid hF6
        clear hF6
        go_wp2
        go_ret
        exact HF6.out

/-- the model's Do -/
theorem do_any {w : World} {B m : Nat} {v : Value} {M : MS} (h : MAt w B m v M) (a : ActS) (hda : a.data.size ≤ 1000000) (hr : RiseF M.files) (hn : M.files.length ≤ 100000) (hb : 0 ≤ M.size ∧ M.size ≤ 1048576 ∧ (sumF M.files : Int) ≤ 1048576 ∧ -9223372036854775807 ≤ M.falls ∧ M.falls ≤ 9223372036854775807) :
    Calls Try.prog 14 #[.pointer (some ⟨m, 0, none⟩), .agg #[.int .i64 a.k, .int .i64 a.n, .string a.name, .string a.dest, .string a.data]] w fun e w' => DoPost w w' B m v (M.act a) e := by
  have hk0 : 0 ≤ a.K ∧ a.K < 6 := by unfold ActS.K; omega
  by_cases h5 : a.K = 5
  · have e : M.act a = (0, { M with falls := max a.n 0 }) := by unfold MS.act; rw [if_pos h5]
    rw [e]
    exact do_5 h a h5
  by_cases hd : M.down = true
  · have ht : M.turn = (false, { M with down := true }) := by unfold MS.turn; rw [if_pos (by rw [hd]; rfl)]
    have e : M.act a = (8, { M with down := true }) := by
      unfold MS.act
      rw [if_neg h5, ht, if_pos rfl]
    rw [e]
    exact do_down h a h5 hd
  have hd : M.down = false := by simpa using hd
  by_cases hf : M.falls = 0
  · have ht : M.turn = (false, { M with down := true }) := by unfold MS.turn; rw [if_pos (by rw [hf]; simp)]
    have e : M.act a = (8, { M with down := true }) := by
      unfold MS.act
      rw [if_neg h5, ht, if_pos rfl]
    rw [e]
    exact do_falls h a h5 hd hf
  have hf0 : (M.falls == 0) = false := by rw [beq_eq_false_iff_ne]; exact hf
  have e : M.act a = MS.step { M with falls := if 0 < M.falls then M.falls - 1 else M.falls } a.K a := by
    have ht : M.turn = (true, { M with falls := if 0 < M.falls then M.falls - 1 else M.falls }) := by unfold MS.turn; rw [if_neg (by rw [hd, hf0]; simp)]
    unfold MS.act
    rw [if_neg h5, ht, if_neg (by simp)]
  rw [e]
  generalize hM1 : ({ M with falls := if 0 < M.falls then M.falls - 1 else M.falls } : MS) = M1
  have hM1 := hM1.symm
  unfold MS.step
  by_cases h0 : a.K = 0
  · rw [if_pos h0]; exact do_0 h a hda hr hn hb hd hf M1 hM1 h0
  by_cases h1 : a.K = 1
  · rw [if_neg h0, if_pos h1]; exact do_1 h a hr hn hb hd hf M1 hM1 h1
  by_cases h2 : a.K = 2
  · rw [if_neg h0, if_neg h1, if_pos h2]; exact do_2 h a hr hn hb hd hf M1 hM1 h2
  by_cases h3 : a.K = 3
  · rw [if_neg h0, if_neg h1, if_neg h2, if_pos h3]; exact do_3 h a hr hn hb hd hf M1 hM1 h3
  · rw [if_neg h0, if_neg h1, if_neg h2, if_neg h3]; exact do_4 h a hr hn hb hd hf M1 hM1 (by omega)

end Go.Proofs.Ytkeopkhbcmeplaa
