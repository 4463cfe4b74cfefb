/-
  same: has a disk just the model's files?
-/
import Derived.Test.YtkeopkhbcmeplaaMPlay
namespace Go.Proofs.Ytkeopkhbcmeplaa
open Go.RowKit

theorem getF_self {gs : List FileS} (h : RiseF gs) : ∀ f ∈ gs, getF f.name gs = some f := by
  induction gs with
  | nil => intro f hf; cases hf
  | cons y r ih =>
    intro f hf
    have h1 := List.pairwise_cons.1 h
    unfold getF
    rw [List.find?_cons]
    rcases List.mem_cons.1 hf with rfl | hf
    · simp
    · have e : (y.name == f.name) = false := by
        have h2 := h1.1 f hf
        have : y.name ≠ f.name := fun e => ne_of_before h2 e.symm
        simpa using this
      rw [e]
      exact ih h1.2 f hf

theorem rd_self {M : MS} (hr : RiseF M.files) (hd : M.down = false) {f : FileS} (hf : f ∈ M.files) : M.rd f.name = (⟨f.data.toArray⟩, 0) := by
  have h1 := getF_self hr f hf
  unfold MS.rd
  have h2 : isAt f.name M.files = true := by rw [← get_is hr, h1]; rfl
  have h3 : mfile f.name M.files = f := by rw [mfile_get hr, h1]; rfl
  rw [hd, h2, h3]; rfl

/-- what is known of a model beside its disk -/
theorem DM.known {w : World} {B d n : Nat} {M : MS} (h : DM w B d n M) : RiseF M.files ∧ M.files.length ≤ n ∧ 0 ≤ M.size ∧ M.size ≤ 1048576 ∧ (sumF M.files : Int) ≤ 1048576 ∧ -9223372036854775807 ≤ M.falls ∧ M.falls ≤ 9223372036854775807 ∧ ∀ f ∈ M.files, f.name.length ≤ 40 := by
  obtain ⟨mb, m, S, fs, rfl, hI, h1, h2, hD⟩ := h
  have e1 := hI.used
  have e2 := hI.fits
  have e3 := hI.room1
  have e4 := hI.left0
  have e5 := hI.left1
  refine ⟨hI.rise, by show (fl fs).length ≤ n; rw [fl_length]; exact h1, hI.room0, hI.room1, by show ((sumF (fl fs) : Nat) : Int) ≤ _; omega, ?_, ?_, hI.short⟩
  · show -9223372036854775807 ≤ (if S.falls then S.left else -1)
    split <;> omega
  · show (if S.falls then S.left else -1) ≤ _
    split <;> omega

theorem fnames_row {w : World} {B : Nat} {gs : List FileS} {v : Value} (h : w.ownsRow B 9 1 v gs.length (gs.map fun f => encStr f.name)) : ∃ a c, v = .slice a gs.length c ∧ (0 < gs.length → ∃ b, a = some ⟨b, 0, none⟩ ∧ B ≤ b ∧ b < w.heap.size ∧ NRow w b gs) := by
  rcases h.2 with ⟨rfl, e⟩ | ⟨g, cap, cur, rfl, _⟩
  · exact ⟨none, 0, by rw [e], fun h0 => by omega⟩
  · have hlt := World.ownsRow.lt h g rfl
    refine ⟨_, _, rfl, fun _ => ⟨g, rfl, hlt.1, hlt.2, fun i hi => ?_⟩⟩
    have := World.ownsRow.cells h (g := g) rfl i (.string ⟨((gs[i]'hi)).name.toArray⟩) (by simp [hi, encStr_eq])
    rwa [addr_add] at this

set_option maxHeartbeats 4000000 in
set_option maxRecDepth 100000 in
theorem same_at {w : World} {B B2 d m n : Nat} {v : Value} {M : MS} (h : DM w B d n M) (hm : MAt w B2 m v M) (hn : n ≤ 100000) (dn : Bool) (hdn : M.down = dn) :
    Calls Try.prog 15 #[.pointer (some ⟨d, 0, none⟩), .pointer (some ⟨m, 0, none⟩)] w fun e w' => e = .returned (.bool true) ∧ Below w.heap.size w w' := by
  have HK := Lib.hid h.known
  have HN := Lib.hid (names_dm h (by omega))
  have HALL : Hid (∀ W, Below w.heap.size w W → DM W B d n M ∧ MAt W B2 m v M ∧ W.cell? ⟨m, 0, none⟩ = some v ∧ W.cell? ⟨m, 2, none⟩ = some (.bool dn)) := Lib.hid fun W hB => ⟨h.below hB, hm.below hB, ((hm.below hB).cells.1).1, hdn ▸ ((hm.below hB).cells.1).2.2.1⟩
  have HR : Hid (∀ W, Below w.heap.size w W → Calls Try.prog 29 #[.pointer (some ⟨m, 0, none⟩)] W fun e w' => e = .returned (.int .i64 M.room) ∧ Below W.heap.size W w') := Lib.hid fun W hB =>
    mroom_any (hm.below hB) HK.out.2.2.1 HK.out.2.2.2.1 HK.out.2.2.2.2.1 (by have := HK.out.2.1; omega)
  have HDN : Hid (∀ W, Below w.heap.size w W → Calls Try.prog 21 #[.pointer (some ⟨d, 0, none⟩)] W fun e w' => e = .returned (.bool dn) ∧ W = w') := Lib.hid fun W hB => hdn ▸ down_dm (h.below hB)
  have HDR : Hid (∀ W, Below w.heap.size w W → Calls Try.prog 22 #[.pointer (some ⟨d, 0, none⟩)] W fun e w' => e = .returned (.int .i64 M.room) ∧ ∃ q, w' = W.drewN q) := Lib.hid fun W hB => room_dm (h.below hB)
  obtain ⟨va, vc, rfl, hvc⟩ := hm.2.1.form
  have HHD := Lib.hid hdn
  rw [hdn] at HN
  clear h hm hdn
  go_enter Try.func15, Try.ntmps15
  go_wp2_with fail
  refine HN.out.mono ?_
  rintro e w1 ⟨nv, rfl, hnr, hb1⟩
  obtain ⟨na, nc, rfl, hnrow⟩ := fnames_row hnr
  have HB1 := Lib.hid hb1
  have HNR := Lib.hid hnrow
  clear hnr hb1 hnrow HN
  go_upto_region 2 with (fail)
  go_cut [25] (fun s wx => s = .bool false ∧ Hid (Below w1.heap.size w1 wx))
  case first =>
    have hd0 := (HALL.out w1 HB1.out).2.2.2
    cases dn
    all_goals
      go_region_with (first
        | (go_at_call 21; refine (HDN.out _ HB1.out.drew).mono ?_; rintro e w4 ⟨rfl, rfl⟩)
        | (go_at_call 22; (first | refine (HDR.out _ HB1.out.drew).mono ?_ | refine (HDR.out _ (HB1.out.trans (((Below.refl w1.heap.size w1).drew.trans hb7).mono HB1.out.size))).mono ?_); rintro e w5 ⟨rfl, q5, rfl⟩)
        | (go_at_call 29; (first | refine (HR.out _ HB1.out.drew).mono ?_ | refine (HR.out _ (below_dn HB1.out _)).mono ?_); rintro e w7 ⟨rfl, hb7⟩))
    all_goals
      go_wp2_with fail
      go_meet
      exact ⟨rfl, Lib.hid ((below_dn (Below.refl w1.heap.size w1) _).trans hb7)⟩
  case rest =>
    obtain ⟨rfl, HBC⟩ := hcut
    have HB2 := Lib.hid (HB1.out.trans (HBC.out.mono HB1.out.size))
    obtain ⟨_, _, c0, c2⟩ := HALL.out _ HB2.out
    cases dn
    · simp only [Bool.false_eq_true, if_false] at HNR ⊢
      clear HDN HDR HR
      go_wp2_with fail
      go_loopw [46] (fun i wr => ∃ k : Nat, k ≤ M.files.length ∧ i = .int .i64 k ∧ Hid (Below wc.heap.size wc wr)) (fun i _ => M.files.length - (intOf i).toNat)
      case atStart => exact ⟨0, Nat.zero_le _, rfl, Lib.hid (Below.refl _ _)⟩
      case round =>
        obtain ⟨k, hk, rfl, HBR⟩ := hrel
        clear c0 c2
        by_cases hlt : k < M.files.length
        · have hbr := HB2.out.trans (HBR.out.mono HB2.out.size)
          obtain ⟨hD, hM, _, _⟩ := HALL.out _ hbr
          obtain ⟨g, rfl, _, hg⟩ := hM.2.1.blk (by omega)
          obtain ⟨d0, d1, d2⟩ := hM.2.1.cell k hlt
          obtain ⟨b, rfl, hb1, hb2, hnr⟩ := HNR.out (by omega)
          have y0 : wr.cell? ⟨b, k, none⟩ = some (.string ⟨(M.files[k]).name.toArray⟩) := ((HBC.out.trans (HBR.out.mono HBC.out.size)).cell (p := ⟨b, k, none⟩) hb2).trans (hnr k hlt)
          have hrd := rd_self HK.out.1 HHD.out (List.getElem_mem hlt)
          have hshort := HK.out.2.2.2.2.2.2.2 _ (List.getElem_mem hlt)
          obtain ⟨f, hf⟩ : ∃ f, f = M.files[k] := ⟨_, rfl⟩
          rw [← hf] at d0 d1 d2 y0 hrd hshort
          have hAl : Below wr.heap.size wr (wr.alloc (.cells #[.string ⟨f.name.toArray⟩, .string ⟨f.data.toArray⟩, .int .i64 f.safe] 45)) := (Below.refl _ wr).alloc (Nat.le_refl _) _
          have hbx : ∀ W, Below (wr.alloc (.cells #[.string ⟨f.name.toArray⟩, .string ⟨f.data.toArray⟩, .int .i64 f.safe] 45)).heap.size (wr.alloc (.cells #[.string ⟨f.name.toArray⟩, .string ⟨f.data.toArray⟩, .int .i64 f.safe] 45)) W → (W.cell? ⟨wr.heap.size, 0, none⟩ = some (.string ⟨f.name.toArray⟩) ∧ W.cell? ⟨wr.heap.size, 1, none⟩ = some (.string ⟨f.data.toArray⟩)) ∧ W.cell? ⟨b, k, none⟩ = some (.string ⟨f.name.toArray⟩) ∧ Below wc.heap.size wc W := fun W hW => by
            have hx : Box W wr.heap.size 45 #[.string ⟨f.name.toArray⟩, .string ⟨f.data.toArray⟩, .int .i64 f.safe] := (hW.block wr.heap.size (by simp)).trans (heap_alloc_new wr _)
            have hb9 := hAl.trans (hW.mono hAl.size)
            exact ⟨⟨hx.cell 0, hx.cell 1⟩, (hb9.cell (p := ⟨b, k, none⟩) (World.block_lt_of_cell? wr _ y0)).trans y0, HBR.out.trans (hb9.mono HBR.out.size)⟩
          have hcall := read_dm (hD.below hAl) ⟨f.name.toArray⟩ (by
            have e : (⟨f.name.toArray⟩ : ByteArray).size = f.name.length := by rw [← bl_length, bl_of]
            rw [e]; unfold maxLen; omega)
          rw [bl_of, hrd] at hcall
          have HC := Lib.hid hcall
          have HBX := Lib.hid hbx
          have HLT := Lib.hid hlt
          have hkl : (k : Int) < (M.files.length : Int) := by omega
          have hln : M.files.length ≤ 100000 := by have := HK.out.2.1; omega
          obtain ⟨nm, hnm⟩ : ∃ nm : ByteArray, nm = ⟨f.name.toArray⟩ := ⟨_, rfl⟩
          obtain ⟨dt, hdt⟩ : ∃ dt : ByteArray, dt = ⟨f.data.toArray⟩ := ⟨_, rfl⟩
          rw [← hnm] at d0 y0
          rw [← hdt] at d1
          rw [← hnm, ← hdt] at HC HBX
          clear hbr hD hM hg hb1 hb2 hnr hrd hshort hf hAl hbx hcall hlt hnm hdt
          go_wp2_with fail
          refine HC.out.mono ?_
          rintro e w5 ⟨rfl, hb5⟩
          obtain ⟨⟨z0, z1⟩, z2, hbw⟩ := HBX.out w5 hb5
          have HBW := Lib.hid (fun q => below_dn hbw q)
          clear HC HBX hb5 hbw y0 d0 d1 d2
          go_wp2_with fail
          go_quiet (fail)
          go_wp2
          go_roundw
          case rel => exact ⟨k + 1, by have := HLT.out; omega, by go_num, Lib.hid (HBW.out _)⟩
          case measure => have := HLT.out; simp [intOf]; omega
        · obtain rfl : k = M.files.length := by omega
          have hge : ¬ (M.files.length : Int) < (M.files.length : Int) := by omega
          have HF := Lib.hid (HB2.out.trans (HBR.out.mono HB2.out.size))
          clear hlt
          go_wp2
          go_ret
          exact ⟨rfl, HF.out⟩
    · simp only [if_true, List.length_nil] at HNR ⊢
      clear HDN HDR HR
      go_wp2
      go_ret
      exact ⟨rfl, HB2.out⟩

theorem same_any {w : World} {B B2 d m n : Nat} {v : Value} {M : MS} (h : DM w B d n M) (hm : MAt w B2 m v M) (hn : n ≤ 100000) :
    Calls Try.prog 15 #[.pointer (some ⟨d, 0, none⟩), .pointer (some ⟨m, 0, none⟩)] w fun e w' => e = .returned (.bool true) ∧ Below w.heap.size w w' := same_at h hm hn _ rfl

end Go.Proofs.Ytkeopkhbcmeplaa
