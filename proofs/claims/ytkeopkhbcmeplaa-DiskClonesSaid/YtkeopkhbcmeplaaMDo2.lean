/-
  The law's model: Do: Rename, Append. (Written by gendo.py 2.)
-/
import Derived.Test.YtkeopkhbcmeplaaMDo
import Derived.Deep.RegionWith
namespace Go.Proofs.Ytkeopkhbcmeplaa
open Go.RowKit

theorem empty_not_name {s : ByteArray} (h : s.toList = []) : nameB s = false := by unfold nameB; rw [h]; rfl
theorem long_not_name {s : ByteArray} (h : (40 : Int) < (s.size : Int)) : nameB s = false := by
  unfold nameB
  rw [decide_eq_false (by omega)]; simp
theorem name_yes {s : ByteArray} (h : ¬ s.toList = []) (h2 : ¬ (40 : Int) < (s.size : Int)) : nameB s = true := by
  unfold nameB
  have e4 : s.toList.isEmpty = false := by simpa using h
  rw [e4, decide_eq_true (by omega)]; rfl

set_option maxHeartbeats 4000000 in
set_option maxRecDepth 100000 in
theorem do_2 {w : World} {B m : Nat} {v : Value} {M : MS} (h : MAt w B m v M) (a : ActS) (hr : RiseF M.files) (hn : M.files.length ≤ 100000) (hb : 0 ≤ M.size ∧ M.size ≤ 1048576 ∧ (sumF M.files : Int) ≤ 1048576 ∧ -9223372036854775807 ≤ M.falls ∧ M.falls ≤ 9223372036854775807) (hd : M.down = false) (hf : M.falls ≠ 0) (M1 : MS) (hM1 : M1 = { M with falls := if 0 < M.falls then M.falls - 1 else M.falls }) (hK : a.K = 2) :
    Calls Try.prog 14 #[.pointer (some ⟨m, 0, none⟩), .agg #[.int .i64 a.k, .int .i64 a.n, .string a.name, .string a.dest, .string a.data]] w fun e w' => DoPost w w' B m v (M1.ren a.name a.dest) e := by
  have hk := act_k a
  have hA : MAt (w.alloc (.cells #[.int .i64 a.k, .int .i64 a.n, .string a.name, .string a.dest, .string a.data] 32)) B m v M := h.below ((Below.refl w.heap.size w).alloc (Nat.le_refl _) _)
  have hT : MTurn w (w.alloc (.cells #[.int .i64 a.k, .int .i64 a.n, .string a.name, .string a.dest, .string a.data] 32)) m v := MTurn.below ((Below.refl w.heap.size w).alloc (Nat.le_refl _) _)
  have hX : ABox (w.alloc (.cells #[.int .i64 a.k, .int .i64 a.n, .string a.name, .string a.dest, .string a.data] 32)) w.heap.size a := heap_alloc_new w _
  rw [hK] at hk
  obtain ⟨⟨c0, c1, c2, c3⟩, f0, f1, f2, f3⟩ := h.cells
  have hm := h.lt.1
  rw [hd] at c2
  have hf0 : (M.falls == 0) = false := by rw [beq_eq_false_iff_ne]; exact hf
  have HM := Lib.hid (And.intro h (And.intro hr (And.intro hn hb)))
  have HM1 := Lib.hid hM1
  have HU : Hid (∀ Z, Z = M1.falls → MAt ((w.setCell ⟨m, 3, none⟩ (.int .i64 Z)).alloc (.cells #[.int .i64 a.k, .int .i64 a.n, .string a.name, .string a.dest, .string a.data] 32)) B m v M1 ∧ ABox ((w.setCell ⟨m, 3, none⟩ (.int .i64 Z)).alloc (.cells #[.int .i64 a.k, .int .i64 a.n, .string a.name, .string a.dest, .string a.data] 32)) w.heap.size a ∧ MTurn w ((w.setCell ⟨m, 3, none⟩ (.int .i64 Z)).alloc (.cells #[.int .i64 a.k, .int .i64 a.n, .string a.name, .string a.dest, .string a.data] 32)) m v) := Lib.hid fun Z hZ => by
    subst hZ
    have hS := h.set (M' := M1) 3 (.int .i64 M1.falls) (by rw [hM1]) (by rw [hM1]; rfl)
    have hb9 := (Below.refl (w.setCell ⟨m, 3, none⟩ (.int .i64 M1.falls)).heap.size (w.setCell ⟨m, 3, none⟩ (.int .i64 M1.falls))).alloc (Nat.le_refl _) (.cells #[.int .i64 a.k, .int .i64 a.n, .string a.name, .string a.dest, .string a.data] 32)
    refine ⟨hS.1.below hb9, ?_, hS.2.trans (MTurn.below hb9) (VNew.refl _ _)⟩
    have hz : (w.setCell ⟨m, 3, none⟩ (.int .i64 M1.falls)).heap.size = w.heap.size := by simp [World.setCell]
    have := heap_alloc_new (w.setCell ⟨m, 3, none⟩ (.int .i64 M1.falls)) (.cells #[.int .i64 a.k, .int .i64 a.n, .string a.name, .string a.dest, .string a.data] 32)
    rw [hz] at this
    exact this
  have HV : Hid (M1.falls = M.falls → MAt (w.alloc (.cells #[.int .i64 a.k, .int .i64 a.n, .string a.name, .string a.dest, .string a.data] 32)) B m v M1 ∧ ABox (w.alloc (.cells #[.int .i64 a.k, .int .i64 a.n, .string a.name, .string a.dest, .string a.data] 32)) w.heap.size a ∧ MTurn w (w.alloc (.cells #[.int .i64 a.k, .int .i64 a.n, .string a.name, .string a.dest, .string a.data] 32)) m v) := Lib.hid fun hZ => by
    have e : M1 = M := by rw [hM1] at hZ ⊢; show MS.mk _ _ _ _ = _; have hZ : (if 0 < M.falls then M.falls - 1 else M.falls) = M.falls := hZ; rw [hZ]
    rw [e]
    exact ⟨hA, hX, hT⟩
  have HFL : Hid (M1.falls = if 0 < M.falls then M.falls - 1 else M.falls) := Lib.hid (by rw [hM1])
  have HFI : Hid (M1.files = M.files ∧ M1.size = M.size) := Lib.hid (by rw [hM1]; exact ⟨rfl, rfl⟩)
  have hw0 : IntKind.i64.wrap (M.falls - 1) = M.falls - 1 := by rw [IntKind.wrap_i64]; omega
  clear hA hT hX h hd hM1 hf hr
  go_enter Try.func14, Try.ntmps14
  go_upto_if 41 with (fail)
  go_cut [4] (fun _ wx => Hid (MAt wx B m v M1 ∧ ABox wx w.heap.size a ∧ MTurn w wx m v))
  case first =>
    by_cases hp : 0 < M.falls
    · have HZ := Lib.hid (HU.out (M.falls - 1) (by rw [HFL.out, if_pos hp]))
      clear HU HV HFL HFI HM HM1
      go_wp2
      go_meet
      exact HZ
    · have HZ := Lib.hid (HV.out (by rw [HFL.out, if_neg hp]))
      clear HU HV HFL HFI HM HM1
      go_wp2
      go_meet
      exact HZ
  case rest =>
    have HC := hcut
    have hm1 := HC.out.1.lt.1
    have hb1 := HC.out.2.1.lt
    have HFD := Lib.hid (find_any HC.out.1 (by rw [HFI.out.1]; omega) a.name)
    obtain ⟨x0, x1, x2, x3, x4⟩ := HC.out.2.1.five
    clear hcut HU HV HFL hw0 hf0 c0 c1 c2 c3 f0 f1 f2 f3 hm
    go_wp2_with fail
    refine HFD.out.mono ?_
    rintro e w2 ⟨rfl, hb2⟩
    have hM2 := HC.out.1.below hb2
    have hX2 : ABox w2 w.heap.size a := (hb2.block _ hb1).trans HC.out.2.1
    have hT2 := HC.out.2.2.trans (MTurn.below hb2) (VNew.refl _ _)
    obtain ⟨x0, x1, x2, x3, x4⟩ := hX2.five
    have hm2 := hM2.lt.1
    have hb3 := hX2.lt
    clear hb2 hm1 hb1 HC HFD
    have HNO : Hid (nameB a.dest = false → DoPost w w2 B m v (M1.ren a.name a.dest) (.returned (.int .i64 1))) := Lib.hid (fun hq => by unfold MS.ren; rw [if_pos hq]; exact ⟨rfl, ⟨v, hM2, VNew.refl _ _⟩, hT2⟩)
    by_cases hemp : a.dest.toList = []
    · have HF := Lib.hid (HNO.out (empty_not_name hemp))
      have e4 : a.dest.toList.isEmpty = true := by rw [hemp]; rfl
      clear hM2 hX2 hT2 HM HM1 HFI HNO
      go_wp2
      go_ret
      exact HF.out
    have e4 : a.dest.toList.isEmpty = false := by simpa using hemp
    by_cases hlong : (40 : Int) < (a.dest.size : Int)
    · have HF := Lib.hid (HNO.out (long_not_name hlong))
      clear hM2 hX2 hT2 HM HM1 HFI HNO
      go_wp2
      go_ret
      exact HF.out
    have hnb := name_yes hemp hlong
    clear HNO
    have HNB := Lib.hid (And.intro hnb hemp)
    clear hnb hemp
    cases hat : isAt (bl a.name) M1.files with
    | false =>
      have HF : Hid (DoPost w w2 B m v (M1.ren a.name a.dest) (.returned (.int .i64 5))) := Lib.hid (by unfold MS.ren; rw [if_neg (by rw [HNB.out.1]; simp), if_pos hat]; exact ⟨rfl, ⟨v, hM2, VNew.refl _ _⟩, hT2⟩)
      clear hM2 hX2 hT2 HM HM1 HFI
      go_wp2
      go_ret
      exact HF.out
    | true =>
      obtain ⟨hnm, hilt, hfile, hset⟩ := at_file hat
      obtain ⟨va, vc, rfl, hvc⟩ := hM2.2.1.form
      obtain ⟨g, rfl, hg0, hg⟩ := hM2.2.1.blk (by omega)
      obtain ⟨d0, d1, d2⟩ := hM2.2.1.cell _ hilt
      rw [hfile hilt] at d0 d1 d2
      have k0 := World.ownsRow.frozenAt hM2.2.1 ((hd (bl a.name) M1.files).length * 3)
      have k1 := World.ownsRow.frozenAt hM2.2.1 ((hd (bl a.name) M1.files).length * 3 + 1)
      have k2 := World.ownsRow.frozenAt hM2.2.1 ((hd (bl a.name) M1.files).length * 3 + 2)
      have hrow := fun f j u hj he => hM2.2.1.set rfl _ j u f hilt hj he
      have hilen : (((hd (bl a.name) M1.files).length : Nat) : Int) < (M1.files.length : Int) := by omega
      obtain ⟨c0, c1, c2, c3⟩ := hM2.cells.1
      obtain ⟨fl0, hfl⟩ : ∃ fl0, fl0 = mfile (bl a.name) M1.files := ⟨_, rfl⟩
      rw [← hfl] at hnm d0 d1 d2
      have hne : g ≠ m := fun e => hM2.2.1.ne hM2.1 (by rw [e]; rfl)
      have hgx : g ≠ w.heap.size := hX2.ne hM2.2.1
      have hsz : (⟨fl0.data.toArray⟩ : ByteArray).size = fl0.data.length := by rw [← bl_length, bl_of]
      obtain ⟨dt, hdt⟩ : ∃ dt : ByteArray, dt = ⟨fl0.data.toArray⟩ := ⟨_, rfl⟩
      obtain ⟨nm, hnm2⟩ : ∃ nm : ByteArray, nm = ⟨fl0.name.toArray⟩ := ⟨_, rfl⟩
      rw [← hdt] at d1 hsz
      rw [← hnm2] at d0
      have HSZ := Lib.hid (And.intro hsz (And.intro hdt hnm2))
      clear hsz hdt hnm2
      have HFL := Lib.hid (And.intro hfl hfile)
      have HNM := Lib.hid hnm
      clear hfl hnm hfile
      have hbA : Below w2.heap.size w2 (w2.alloc (.cells #[.string nm, .string dt, .int .i64 fl0.safe] 45)) := (Below.refl _ w2).alloc (Nat.le_refl _) _
      have HD := Lib.hid (mdrop_any (hM2.below hbA) (by rw [HFI.out.1]; exact hn) _ hilt)
      have hf2 : {fl0 with name := bl a.dest} = ({ mfile (bl a.name) M1.files with name := bl a.dest } : FileS) := by rw [HFL.out.1]
      have HP : Hid (∀ W v', MAt W B m v' { M1 with files := M1.files.take (hd (bl a.name) M1.files).length ++ M1.files.drop ((hd (bl a.name) M1.files).length + 1) } → VNew (w2.alloc (.cells #[.string nm, .string dt, .int .i64 fl0.safe] 45)) (.slice (some ⟨g, 0, none⟩) M1.files.length vc) v' → MTurn (w2.alloc (.cells #[.string nm, .string dt, .int .i64 fl0.safe] 45)) W m (.slice (some ⟨g, 0, none⟩) M1.files.length vc) →
          (W.cell? ⟨w2.heap.size, 0, none⟩ = some (.string nm) ∧ W.cell? ⟨w2.heap.size, 1, none⟩ = some (.string dt) ∧ W.cell? ⟨w2.heap.size, 2, none⟩ = some (.int .i64 fl0.safe) ∧ W.frozen? ⟨w2.heap.size, 0, none⟩ = false) ∧ (W.cell? ⟨w.heap.size, 3, none⟩ = some (.string a.dest) ∧ w.heap.size ≠ w2.heap.size) ∧
          Calls Try.prog 30 #[.pointer (some ⟨m, 0, none⟩), .agg #[.string a.dest, .string dt, .int .i64 fl0.safe]] (W.setCell ⟨w2.heap.size, 0, none⟩ (.string a.dest)) fun e w' => e = .returned (.tuple #[]) ∧ DoPost w w' B m (.slice (some ⟨g, 0, none⟩) M1.files.length vc) (M1.ren a.name a.dest) (.returned (.int .i64 0))) := Lib.hid (by
        intro W v' h1 h2 h3
        rw [drop_at hat] at h1
        have hT4 := hT2.trans (MTurn.below hbA) (VNew.refl _ _)
        have hzA : (w2.alloc (.cells #[.string nm, .string dt, .int .i64 fl0.safe] 45)).heap.size = w2.heap.size + 1 := by simp
        have hbox : Box W w2.heap.size 45 #[.string nm, .string dt, .int .i64 fl0.safe] := (h3.2.2.2.2 w2.heap.size (by omega) (by omega) (fun e => by
          have : g = w2.heap.size := by simpa [Value.ownBlock] using e
          omega)).trans (heap_alloc_new w2 _)
        have hx3 : ABox W w.heap.size a := (hX2.kept (hM2) (MTurn.trans (MTurn.below hbA) h3 (VNew.refl _ _)))
        refine ⟨⟨hbox.cell 0, hbox.cell 1, hbox.cell 2, hbox.free 0⟩, ⟨hx3.five.2.2.2.1, by omega⟩, ?_⟩
        have hvn : ∀ q, v'.ownBlock = some q → q ≠ w2.heap.size := fun q hq e => by
          rcases h2 q hq with h5 | h5
          · have : g = q := by simpa [Value.ownBlock] using h5
            omega
          · omega
        have hm4 : MAt (W.setCell ⟨w2.heap.size, 0, none⟩ (.string a.dest)) B m v' { M1 with files := mdrop (bl a.name) M1.files } := h1.keep (Below.heap_setCell W ⟨w2.heap.size, 0, none⟩ _ m (by show m ≠ w2.heap.size; omega)) fun q hq => Below.heap_setCell W ⟨w2.heap.size, 0, none⟩ _ q (hvn q hq)
        have ht5 : MTurn w (W.setCell ⟨w2.heap.size, 0, none⟩ (.string a.dest)) m (.slice (some ⟨g, 0, none⟩) M1.files.length vc) := by
          have hT5 := hT4.trans h3 (VNew.refl _ _)
          have hw22 : w.heap.size < w2.heap.size := hb3
          exact ⟨hT5.1, hT5.2.1, hT5.2.2.1, by have := hT5.2.2.2.1; simp [World.setCell]; omega, fun q hq q1 q2 => (Below.heap_setCell W ⟨w2.heap.size, 0, none⟩ _ q (by show q ≠ w2.heap.size; omega)).trans (hT5.2.2.2.2 q hq q1 q2)⟩
        have hvN : VNew w (.slice (some ⟨g, 0, none⟩) M1.files.length vc) v' := (VNew.refl w _).trans h2 hT4.2.2.2.1
        have hln : (mdrop (bl a.name) M1.files).length ≤ 100000 := by
          have h7 := (take_hd (bl a.name) M1.files).2.2
          rw [← drop_at hat, List.length_append, List.length_take, List.length_drop, HFI.out.1]
          omega
        refine (mput_any hm4 hln ⟨bl a.dest, fl0.data, fl0.safe⟩ a.dest dt (of_bl _).symm HSZ.out.2.1).mono ?_
        rintro e w9 ⟨rfl, ⟨v9, p1, p2⟩, p3⟩
        refine ⟨rfl, ?_⟩
        unfold MS.ren
        rw [if_neg (by rw [HNB.out.1]; simp), if_neg (by rw [hat]; simp), ← hf2]
        exact ⟨rfl, ⟨v9, p1, hvN.trans p2 ht5.2.2.2.1⟩, ht5.trans p3 hvN⟩)
      generalize hgi : (hd (bl a.name) M1.files).length = i at hilt d0 d1 d2 k0 k1 k2 hilen HP HD ⊢
      clear hgi hM2 hX2 hT2 HM HM1 HFI hrow hset HFL HNM HSZ hilt hbA hf2
      go_wp2_with fail
      refine HD.out.mono ?_
      rintro e w5 ⟨rfl, ⟨v5, h5, n5⟩, t5⟩
      obtain ⟨⟨y0, y1, y2, z0⟩, ⟨y3, y4⟩, hput⟩ := HP.out _ _ h5 n5 t5
      have HPUT := Lib.hid hput
      clear h5 n5 t5 HP HD hput
      go_wp2_with fail
      refine HPUT.out.mono ?_
      rintro e w6 ⟨rfl, hF6⟩
      have HF6 := Lib.hid hF6
      clear hF6
      go_wp2
      go_ret
      exact HF6.out

end Go.Proofs.Ytkeopkhbcmeplaa
