/-
  The law's model: find, Room.
-/
import Derived.Test.YtkeopkhbcmeplaaMMem
namespace Go.Proofs.Ytkeopkhbcmeplaa
open Go.RowKit

theorem less_eq (s t : ByteArray) : Op.bytesLess s.toList t.toList = bytesBefore (bl s) (bl t) := by
  rw [Go.Proofs.bytesLess_eq, Lib.toList_data, Lib.toList_data]
  have h := before_iff (bl s) (bl t)
  cases hb : bytesBefore (bl s) (bl t) with
  | true => exact decide_eq_true (h.1 hb)
  | false => exact decide_eq_false fun g => by rw [h.2 g] at hb; cases hb

theorem geq_run (s t : ByteArray) (W : World) : (binOp .geq 9 (.string s) (.string t)).run Try.prog W = .ok (.bool (!bytesBefore (bl s) (bl t))) W := by
  rw [← less_eq]; rfl
theorem eql_run (s t : ByteArray) (W : World) : (binOp .eql 9 (.string s) (.string t)).run Try.prog W = .ok (.bool (bl s == bl t)) W := by
  have e : (s.toList == t.toList) = (bl s == bl t) := by rw [Lib.toList_data, Lib.toList_data]; rfl
  rw [← e]; rfl

set_option maxHeartbeats 2000000 in
set_option maxRecDepth 100000 in
theorem find_any {w : World} {B m : Nat} {v : Value} {M : MS} (h : MAt w B m v M) (hn : M.files.length ≤ 1000000) (s : ByteArray) :
    Calls Try.prog 28 #[.pointer (some ⟨m, 0, none⟩), .string s] w fun e w' => e = .returned (.tuple #[.int .i64 (hd (bl s) M.files).length, .bool (isAt (bl s) M.files)]) ∧ Below w.heap.size w w' := by
  obtain ⟨⟨c0, c1, c2, c3⟩, _⟩ := Box.four h.1
  obtain ⟨a, c, rfl, hc⟩ := h.2.1.form
  have HM := Lib.hid h
  obtain ⟨gs, hgs⟩ : ∃ gs, gs = M.files := ⟨_, rfl⟩
  rw [← hgs] at c0 hc hn ⊢
  have HG := Lib.hid hgs
  clear h hgs c1 c2 c3
  go_enter Try.func28, Try.ntmps28
  go_wp2_with fail
  go_loopw [13] (fun i wr => ∃ k : Nat, k ≤ gs.length ∧ i = .int .i64 k ∧ Hid (k ≤ (hd (bl s) gs).length) ∧ Hid (Below w.heap.size w wr)) (fun i _ => gs.length - (intOf i).toNat)
  case atStart => exact ⟨0, Nat.zero_le _, rfl, Lib.hid (Nat.zero_le _), Lib.hid (Below.refl _ _)⟩
  case round =>
    obtain ⟨k, hk, rfl, HK, HB⟩ := hrel
    by_cases hlt : k < gs.length
    · have hrow := HM.out.2.1
      rw [← HG.out] at hrow
      obtain ⟨g, rfl, _, hg⟩ := hrow.blk (by omega)
      obtain ⟨d0, d1, d2⟩ := hrow.cell k hlt
      have d0 := (HB.out.cell (p := ⟨g, k * 3, none⟩) hg).trans d0
      have d1 := (HB.out.cell (p := ⟨g, k * 3 + 1, none⟩) hg).trans d1
      have d2 := (HB.out.cell (p := ⟨g, k * 3 + 2, none⟩) hg).trans d2
      have hcmp := geq_run ⟨(gs[k]).name.toArray⟩ s
      rw [bl_of] at hcmp
      have HEQ : Hid (((⟨(gs[k]).name.toArray⟩ : ByteArray).toList == s.toList) = ((gs[k]).name == bl s)) := Lib.hid (by rw [Lib.toList_data, Lib.toList_data]; rfl)
      have HN := Lib.hid (fun hp => tw_next (p := fun f : FileS => bytesBefore f.name (bl s)) hlt HK.out hp)
      have HS := Lib.hid (fun hp => tw_stop (p := fun f : FileS => bytesBefore f.name (bl s)) hlt HK.out hp)
      have HD := Lib.hid (List.drop_eq_getElem_cons hlt)
      obtain ⟨f, hf⟩ : ∃ f, f = gs[k] := ⟨_, rfl⟩
      rw [← hf] at d0 d1 d2 hcmp HEQ HN HS HD
      obtain ⟨nm, hnm⟩ : ∃ nm : ByteArray, nm = ⟨f.name.toArray⟩ := ⟨_, rfl⟩
      rw [← hnm] at d0 hcmp HEQ
      have hkl : (k : Int) < (gs.length : Int) := by omega
      have HLT := Lib.hid hlt
      clear hf hrow hnm
      cases hb : bytesBefore f.name (bl s) with
      | true =>
        have HN2 := Lib.hid (HN.out hb)
        rw [hb] at hcmp
        clear hb HN HS HD
        go_wp2
        go_roundw
        case rel => exact ⟨k + 1, by have := HLT.out; omega, by go_num, HN2, Lib.hid (HB.out.alloc HB.out.size _)⟩
        case measure => have := HLT.out; simp [intOf]; omega
      | false =>
        have HS2 := Lib.hid (HS.out hb)
        have HAT : Hid (isAt (bl s) gs = (f.name == bl s)) := Lib.hid (by
          unfold isAt tl
          rw [HS2.out.2, HD.out])
        have HLE : Hid ((hd (bl s) gs).length = k) := Lib.hid HS2.out.1
        rw [hb] at hcmp
        clear hb HN HS HD HS2
        have HB2 := Lib.hid (fun q => below_dn (HB.out.alloc HB.out.size (.cells #[.string nm, .string ⟨f.data.toArray⟩, .int .i64 f.safe] 45)) q)
        go_wp2_with fail
        go_quiet (fail)
        go_wp2
        exact bodyPost_ret (v := .tuple #[.int .i64 (k : Int), .bool (nm.toList == s.toList)]) (by simp [results, Try.results28, go_sem]) rfl ⟨by rw [HAT.out, HLE.out, HEQ.out], HB2.out _⟩
    · obtain rfl : k = gs.length := by omega
      have HE := Lib.hid (tw_end (p := fun f : FileS => bytesBefore f.name (bl s)) HK.out)
      have HAT : Hid (isAt (bl s) gs = false) := Lib.hid (by
        unfold isAt tl
        rw [HE.out.1])
      have HLE : Hid ((hd (bl s) gs).length = gs.length) := Lib.hid HE.out.2
      have hge : ¬ (gs.length : Int) < (gs.length : Int) := by omega
      have c0' := (HB.out.cell (p := ⟨m, 0, none⟩) HM.out.lt.1).trans c0
      clear hlt
      go_wp2
      exact bodyPost_ret (v := .tuple #[.int .i64 (gs.length : Int), .bool false]) (by simp [results, Try.results28, go_sem]) rfl ⟨by rw [HAT.out, HLE.out], HB.out⟩

theorem sumF_snoc (gs : List FileS) (k : Nat) (h : k < gs.length) : sumF (gs.take (k + 1)) = sumF (gs.take k) + (gs[k]).data.length := by
  rw [List.take_succ_eq_append_getElem h]
  unfold sumF
  rw [List.map_append, List.sum_append]
  simp

set_option maxHeartbeats 2000000 in
set_option maxRecDepth 100000 in
theorem mroom_any {w : World} {B m : Nat} {v : Value} {M : MS} (h : MAt w B m v M) (h0 : 0 ≤ M.size) (h1 : M.size ≤ 1048576) (h2 : (sumF M.files : Int) ≤ 1048576) (hn : M.files.length ≤ 1000000) :
    Calls Try.prog 29 #[.pointer (some ⟨m, 0, none⟩)] w fun e w' => e = .returned (.int .i64 M.room) ∧ Below w.heap.size w w' := by
  obtain ⟨⟨c0, c1, c2, c3⟩, _⟩ := Box.four h.1
  obtain ⟨a, c, rfl, hc⟩ := h.2.1.form
  have HM := Lib.hid h
  unfold MS.room
  obtain ⟨gs, hgs⟩ : ∃ gs, gs = M.files := ⟨_, rfl⟩
  rw [← hgs] at c0 hc h2 hn ⊢
  have HG := Lib.hid hgs
  clear h hgs c2 c3
  go_enter Try.func29, Try.ntmps29
  go_wp2_with fail
  go_loopw [3, 15] (fun n i wr => ∃ k : Nat, k ≤ gs.length ∧ i = .int .i64 k ∧ n = .int .i64 (M.size - (sumF (gs.take k) : Int)) ∧ Hid (Below w.heap.size w wr)) (fun _ i _ => gs.length - (intOf i).toNat)
  case atStart => exact ⟨0, Nat.zero_le _, rfl, by show _ = Value.int .i64 (M.size - ((0 : Nat) : Int)); simp, Lib.hid (Below.refl _ _)⟩
  case round =>
    obtain ⟨k, hk, rfl, rfl, HB⟩ := hrel
    by_cases hlt : k < gs.length
    · have hrow := HM.out.2.1
      rw [← HG.out] at hrow
      obtain ⟨g, rfl, _, hg⟩ := hrow.blk (by omega)
      obtain ⟨d0, d1, d2⟩ := hrow.cell k hlt
      have d0 := (HB.out.cell (p := ⟨g, k * 3, none⟩) hg).trans d0
      have d1 := (HB.out.cell (p := ⟨g, k * 3 + 1, none⟩) hg).trans d1
      have d2 := (HB.out.cell (p := ⟨g, k * 3 + 2, none⟩) hg).trans d2
      have hsn := sumF_snoc gs k hlt
      have htk := sumF_take gs k
      have htk2 := sumF_take gs (k + 1)
      have h0' := h0
      have hsz : (⟨(gs[k]).data.toArray⟩ : ByteArray).size = (gs[k]).data.length := by rw [← bl_length, bl_of]
      obtain ⟨f, hf⟩ : ∃ f, f = gs[k] := ⟨_, rfl⟩
      rw [← hf] at d0 d1 d2 hsn hsz
      have hkl : (k : Int) < (gs.length : Int) := by omega
      have HLT := Lib.hid hlt
      have hw : IntKind.i64.wrap (M.size - (sumF (gs.take k) : Int) - (f.data.length : Int)) = M.size - (sumF (gs.take (k + 1)) : Int) := by rw [IntKind.wrap_i64]; omega
      obtain ⟨X, hX⟩ : ∃ X, X = M.size - (sumF (gs.take (k + 1)) : Int) := ⟨_, rfl⟩
      rw [← hX] at hw
      have HX := Lib.hid hX
      generalize M.size - (sumF (gs.take k) : Int) = Y at hw
      have HW := Lib.hid hw
      obtain ⟨tx, htx⟩ : ∃ tx : ByteArray, tx = ⟨f.data.toArray⟩ := ⟨_, rfl⟩
      rw [← htx] at d1 hsz
      rw [← hsz] at hw
      clear hf hrow hsn htk htk2 hX h2 hsz htx
      go_wp2
      go_roundw
      case rel => exact ⟨k + 1, by have := HLT.out; omega, by go_num, by rw [← HX.out], Lib.hid (HB.out.alloc HB.out.size _)⟩
      case measure => have := HLT.out; simp [intOf]; omega
    · obtain rfl : k = gs.length := by omega
      rw [List.take_length]
      have hge : ¬ (gs.length : Int) < (gs.length : Int) := by omega
      clear hlt
      go_wp2
      go_ret
      exact ⟨rfl, HB.out⟩

end Go.Proofs.Ytkeopkhbcmeplaa
