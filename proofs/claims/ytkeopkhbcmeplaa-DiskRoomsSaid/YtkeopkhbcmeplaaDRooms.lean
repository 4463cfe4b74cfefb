/-
  The walk of mailbaglaw04.DiskRooms.
-/
import Derived.Test.YtkeopkhbcmeplaaDCuts
import Derived.Laws.OwnMore
namespace Go.Proofs.Ytkeopkhbcmeplaa
open Go.RowKit

theorem mask_127 (n : Int) : ∃ k : Nat, bits .and .i64 n 127 = (k : Int) ∧ k < 128 := ⟨(n % 128).toNat, by rw [and_maskJ n 7 127 (by decide) (by decide)]; show n % 128 = _; omega, by omega⟩
theorem mask_1023 (n : Int) : ∃ k : Nat, bits .and .i64 n 1023 = (k : Int) ∧ k < 1024 := ⟨(n % 1024).toNat, by rw [and_maskJ n 10 1023 (by decide) (by decide)]; show n % 1024 = _; omega, by omega⟩
theorem mask_3 (n : Int) : ∃ k : Nat, bits .and .i64 n 3 = (k : Int) ∧ k < 4 := ⟨(n % 4).toNat, by rw [and_maskJ n 2 3 (by decide) (by decide)]; show n % 4 = _; omega, by omega⟩

theorem below_drewN' {B : Nat} {a w : World} (h : Below B a w) (q : Nat) : Below B a (w.drewN q) := ⟨h.os, h.tape, h.output, h.size, h.block⟩

/-- 'make' of bytes -/
theorem make_bytes (n : Nat) (hn : n ≤ 1000000) :
    ∃ arr : Array Value, arr.toList = List.replicate n (.int .u8 0) ∧ ∀ w, (Instr.makeSlice 55 (.int .i64 (n : Int)) (.int .i64 (n : Int))).run Try.prog w = .ok (.slice (some ⟨w.heap.size, 0, none⟩) n n) (w.alloc (.cells arr 5)) := by
  obtain ⟨i, hi, hz, hi1, hi2⟩ := info_parts infoB
  refine ⟨madeCells (Value.int .u8 0).cells n, toList_madeCells_one _ _, fun w => ?_⟩
  have h := run_makeSlice (P := Try.prog) w 55 5 i (.int .u8 0) Try.underlying55 hi hz .i64 .i64 (n : Int) (n : Int) (by omega) (Int.le_refl _) (by rw [hi1]; simp only [Int.toNat_natCast]; omega) (by rw [hi2]; omega) (by omega)
  rw [hi1] at h
  simpa using h

/-- 'string' of bytes that lie in a block of their own -/
theorem conv_new (w : World) (l : List UInt8) (n c : Nat) (hn : l.length = n) (a : Array Value) (ha : a.toList = Lib.byteCells l) :
    (convert 55 9 (.slice (some ⟨w.heap.size, 0, none⟩) n c)).run Try.prog (w.alloc (.cells a 5)) = .ok (.string ⟨l.toArray⟩) (w.alloc (.cells a 5)) := by
  subst hn
  refine run_convert_bytes_back (P := Try.prog) (w.alloc (.cells a 5)) 55 9 5 ⟨w.heap.size, 0, none⟩ c l Try.underlying55 Try.underlying5 Try.underlying9 fun j hj => ?_
  have e : ((⟨w.heap.size, 0, none⟩ : Addr).add j) = ⟨w.heap.size, j, none⟩ := by unfold Addr.add; by_cases h0 : j = 0 <;> simp [h0]
  rw [e, cell_of_row (w.alloc (.cells a 5)) w.heap.size j a 5 (0, 0) (heap_alloc_new w _)]
  have hj' : j < (Lib.byteCells l).length := by simpa [Lib.byteCells] using hj
  have := congrArg (·[j]?) ha
  simp only [Array.getElem?_toList] at this
  rw [this, List.getElem?_eq_getElem hj']
  simp [Lib.byteCells]
theorem zeros_cells (n : Nat) : Lib.byteCells (List.replicate n 0) = List.replicate n (.int .u8 0) := by simp [Lib.byteCells]

theorem DM.rise {w : World} {B d n : Nat} {M : MS} (h : DM w B d n M) : RiseF M.files := by
  obtain ⟨mb, m, S, fs, rfl, hI, _⟩ := h
  exact hI.rise
theorem DM.room_le {w : World} {B d n : Nat} {M : MS} (h : DM w B d n M) : 0 ≤ M.room ∧ M.room ≤ 1048576 := by
  obtain ⟨mb, m, S, fs, rfl, hI, _⟩ := h
  have h1 := hI.used
  have h2 := hI.fits
  have h3 := hI.room1
  have e : (MS.of S (fl fs)).room = S.room - S.used := by rw [h1]; rfl
  rw [e]
  omega

theorem sumF_app (a b : List FileS) : sumF (a ++ b) = sumF a + sumF b := by unfold sumF; rw [List.map_append, List.sum_append]
theorem sumF_cons (f : FileS) (r : List FileS) : sumF (f :: r) = f.data.length + sumF r := rfl

/-- what is ahead, at, and behind a name -/
theorem sum_place (k : L8) (gs : List FileS) : sumF gs = sumF (hd k gs) + (mfile k gs).data.length + sumF (tl2 k gs) := by
  cases e : isAt k gs with
  | false =>
    have e1 : mfile k gs = ⟨k, [], 0⟩ := by unfold mfile; rw [e]; rfl
    have e2 : tl2 k gs = tl k gs := by unfold tl2; rw [e]; rfl
    rw [e1, e2]
    have := congrArg sumF (hd_tl k gs)
    rw [sumF_app] at this
    show _ = _ + 0 + _
    omega
  | true =>
    obtain ⟨f, r, e1, e2, e3, e4⟩ := isAt_split e
    have e5 : mfile k gs = f := by unfold mfile; rw [e, e1]; rfl
    rw [e5, e4]
    have := congrArg sumF e3
    rw [sumF_app, sumF_cons] at this
    omega

def OnM (M : MS) : Prop := M.down = false ∧ M.falls = -1

theorem app_room {M : MS} (hr : RiseF M.files) (ho : OnM M) (s b : ByteArray) (hn : nameB s = true) :
    ((b.size : Int) ≤ M.room → ∃ M', turned M (fun M => M.app s b) = (0, M') ∧ OnM M' ∧ M'.room = M.room - (b.size : Int)) ∧ (M.room < (b.size : Int) → turned M (fun M => M.app s b) = (7, M)) := by
  rw [turn_on ho.1 ho.2]
  unfold MS.app
  rw [if_neg (by rw [hn]; simp)]
  refine ⟨fun h => ⟨_, if_neg (by omega), ho, ?_⟩, fun h => if_pos h⟩
  show M.size - _ = _
  have h1 := sum_place (bl s) M.files
  have e : mput { mfile (bl s) M.files with data := (mfile (bl s) M.files).data ++ bl b } M.files = hd (bl s) M.files ++ { mfile (bl s) M.files with data := (mfile (bl s) M.files).data ++ bl b } :: tl2 (bl s) M.files := by
    unfold mput
    show hd (mfile (bl s) M.files).name M.files ++ _ :: tl2 (mfile (bl s) M.files).name M.files = _
    rw [mfile_name hr]
  rw [e, sumF_app, sumF_cons]
  unfold MS.room
  simp only [List.length_append, bl_length]
  omega

theorem rem_room {M : MS} (ho : OnM M) (s : ByteArray) : ∃ (tx : ByteArray) (c : Int) (M' : MS), M.rd (bl s) = (tx, c) ∧ turned M (fun M => M.rem s) = (c, M') ∧ OnM M' ∧ M'.room = M.room + (tx.size : Int) := by
  have hrd : M.rd (bl s) = if isAt (bl s) M.files then (⟨(mfile (bl s) M.files).data.toArray⟩, 0) else (⟨#[]⟩, 5) := by unfold MS.rd; rw [ho.1]; rfl
  rw [turn_on ho.1 ho.2, hrd]
  unfold MS.rem
  cases e : isAt (bl s) M.files with
  | false => exact ⟨⟨#[]⟩, 5, M, rfl, rfl, ho, by show _ = _ + 0; omega⟩
  | true =>
    refine ⟨⟨(mfile (bl s) M.files).data.toArray⟩, 0, { M with files := mdrop (bl s) M.files }, rfl, rfl, ho, ?_⟩
    have h1 := sum_place (bl s) M.files
    have e2 : (⟨(mfile (bl s) M.files).data.toArray⟩ : ByteArray).size = (mfile (bl s) M.files).data.length := by rw [← bl_length, bl_of]
    rw [e2]
    show M.size - ((sumF (hd (bl s) M.files ++ tl2 (bl s) M.files) : Nat) : Int) = _
    rw [sumF_app]
    unfold MS.room
    omega

end Go.Proofs.Ytkeopkhbcmeplaa
namespace Go.Proofs.Ytkeopkhbcmeplaa.diskRooms
open Go.RowKit

def Rel (w0 w wr : World) (d k : Nat) (L : Int) : Prop := ∃ M, OnM M ∧ M.room = L ∧ DM wr w0.heap.size d (2 * k) M ∧ Below w.heap.size w wr ∧ w0.heap.size ≤ wr.heap.size ∧ w.heap.size ≤ w0.heap.size

theorem Rel.turn {w0 w wr w' : World} {d k j : Nat} {M : MS} (h : DTurn wr w' w0.heap.size d j M) (hb : Below w.heap.size w wr) (h1 : w0.heap.size ≤ wr.heap.size) (h2 : w.heap.size ≤ w0.heap.size) (hj : j + 1 = k) : DM w' w0.heap.size d k M ∧ Below w.heap.size w w' ∧ w0.heap.size ≤ w'.heap.size :=
  ⟨hj ▸ h.1, hb.trans ((h.below h1).mono h2), Nat.le_trans h1 (h.below h1).size⟩

set_option maxHeartbeats 4000000 in
set_option maxRecDepth 100000 in
theorem walk_few {w : World} (z : Int) (a : Option Addr) (len cap : Nat) (zs : List Int) (hrow : IsRow .i64 w a len cap zs) (h40 : len ≤ 40) :
    Calls Try.prog 7 #[.int .i64 z, .slice a len cap] w fun e w' => e = .returned (.bool true) ∧ Below w.heap.size w w' := by
  obtain ⟨R, hR, hR2⟩ := mask_1023 z
  have h40' : ¬ (40 : Int) < (len : Int) := by omega
  have HROW := Lib.hid hrow
  clear hrow
  go_enter Try.func7, Try.ntmps7
  go_wp2_with fail
  refine (dhead_any _).mono ?_
  rintro e w0 ⟨rfl, hb0⟩
  have H0 := Lib.hid hb0
  clear hb0
  go_wp2_with fail
  refine (new_dm _ (R : Int)).mono ?_
  rintro e w1 ⟨d, rfl, hD1, hb1⟩
  rw [show min (max (R : Int) 0) 1048576 = (R : Int) by omega] at hD1
  have HST : Hid (Rel w0 w w1 d 0 (R : Int)) := Lib.hid ⟨_, ⟨rfl, rfl⟩, (by show (R : Int) - ((0 : Nat) : Int) = _; omega), hD1, H0.out.trans (hb1.mono H0.out.size), hb1.size, H0.out.size⟩
  clear hD1 hb1
  go_wp2_with fail
  go_loopw [6, 26] (fun l i wr => ∃ (k : Nat) (L : Int), k ≤ len ∧ i = .int .i64 k ∧ l = .int .i64 L ∧ Hid (Rel w0 w wr d k L)) (fun _ i _ => len - (intOf i).toNat)
  case atStart => exact ⟨0, R, Nat.zero_le _, rfl, rfl, HST⟩
  case round =>
    obtain ⟨k, L, hk, rfl, rfl, HR⟩ := hrel
    clear HST
    by_cases hlt : k < len
    · obtain ⟨x, rfl, hx⟩ : ∃ x, a = some x ∧ wr.cell? (x.add k) = some (.int .i64 (zs.getD k 0)) := by
        obtain ⟨M, _, _, _, hb, _⟩ := HR.out
        rcases HROW.out with ⟨_, h0, _⟩ | ⟨x, hx, h1, h2, h3, h4, _⟩
        · omega
        · exact ⟨x, hx, (hb.cell (World.block_lt_of_cell? w _ (h4 k (by omega)))).trans (h4 k (by omega))⟩
      generalize zs.getD k 0 = y at hx
      obtain ⟨n, hn, hn2⟩ := mask_127 y
      obtain ⟨q, hq, hq2⟩ := mask_3 (k : Int)
      have hq3 : IntKind.u8.wrap (q : Int) = (q : Int) := by simp [IntKind.wrap, IntKind.bits, IntKind.signed]; omega
      have hq4 : IntKind.u8.wrap (97 + (q : Int)) = 97 + (q : Int) := by simp [IntKind.wrap, IntKind.bits, IntKind.signed]; omega
      obtain ⟨nm, hnm⟩ : ∃ nm : ByteArray, nm = ⟨#[UInt8.ofNat (97 + q)]⟩ := ⟨_, rfl⟩
      have cv1 := fun W => conv_new W [UInt8.ofNat (97 + q)] 1 1 rfl #[.int .u8 (97 + (q : Int))] (by
        have e : (97 + q) % 256 = 97 + q := by omega
        simp [Lib.byteCells, e])
      rw [show (⟨[UInt8.ofNat (97 + q)].toArray⟩ : ByteArray) = nm from hnm.symm] at cv1
      obtain ⟨arr, ha, hmk⟩ := make_bytes n (by omega)
      obtain ⟨Z, hZ⟩ : ∃ Z : ByteArray, Z = ⟨(List.replicate n 0).toArray⟩ := ⟨_, rfl⟩
      have cv2 := fun (W : World) => conv_new W (List.replicate n 0) n n (by simp) arr (by rw [ha, zeros_cells])
      rw [← hZ] at cv2
      replace cv2 := cv2 (wr.alloc (.cells #[.int .u8 (97 + (q : Int))] 5))
      rw [show (wr.alloc (.cells #[.int .u8 (97 + (q : Int))] 5)).heap.size = wr.heap.size + 1 by simp] at cv2
      have hnb : nameB nm = true := by
        rw [nameB_eq, hnm]
        have e : bl ⟨#[UInt8.ofNat (97 + q)]⟩ = [UInt8.ofNat (97 + q)] := rfl
        rw [e]; rfl
      have hnz : nm.size ≤ maxLen := by rw [hnm]; show 1 ≤ maxLen; unfold maxLen; omega
      have hZs : Z.size = n := by rw [hZ, ← bl_length, bl_of]; simp
      obtain ⟨M, ho, hroom, hD, hb, hz1, hz2⟩ := HR.out
      have hL := hD.room_le
      rw [hroom] at hL
      have HAP := app_room hD.rise ho nm Z hnb
      rw [hroom, hZs] at HAP
      have HAP := Lib.hid HAP
      have HNZ := Lib.hid hnz
      have HM := Lib.hid (And.intro ho (And.intro hroom (And.intro hD (And.intro hb (And.intro hz1 hz2)))))
      have HX := Lib.hid hx
      have hlt2 : (k : Int) < (len : Int) := by omega
      have HK5 : Hid (Int.tmod (k : Int) 5 = (k : Int) % 5) := Lib.hid (Int.tmod_eq_emod_of_nonneg (by omega))
      clear ho hroom hD hb hz1 hz2 hnb hnz hZs hnm hZ ha
      have HD2 : Hid (DM ((wr.alloc (.cells #[.int .u8 (97 + (q : Int))] 5)).alloc (.cells arr 5)) w0.heap.size d (2 * k) M ∧ Below w.heap.size w ((wr.alloc (.cells #[.int .u8 (97 + (q : Int))] 5)).alloc (.cells arr 5)) ∧ w0.heap.size ≤ ((wr.alloc (.cells #[.int .u8 (97 + (q : Int))] 5)).alloc (.cells arr 5)).heap.size) := Lib.hid (by
        obtain ⟨ho, hroom, hD, hb, hz1, hz2⟩ := HM.out
        have hb2 : Below wr.heap.size wr ((wr.alloc (.cells #[.int .u8 (97 + (q : Int))] 5)).alloc (.cells arr 5)) := ((Below.refl _ wr).alloc (Nat.le_refl _) _).alloc (by simp) _
        exact ⟨hD.below hb2, hb.trans (hb2.mono (by omega)), Nat.le_trans hz1 hb2.size⟩)
      go_wp2_with fail
      have HA := app_told HD2.out.1 (by omega) nm Z HNZ.out
      by_cases hfit : (n : Int) ≤ L
      · obtain ⟨M', e1, ho', hr'⟩ := HAP.out.1 hfit
        rw [e1] at HA
        refine HA.mono ?_
        rintro e w3 ⟨rfl, hT⟩
        have H3 := Lib.hid (And.intro ho' (And.intro hr' (Rel.turn hT HD2.out.2.1 HD2.out.2.2 HM.out.2.2.2.2.2 rfl)))
        clear hT HA e1 ho' hr' cv1 cv2 hmk hx hn hq hq3 hq4
        have hroom3 := room_dm H3.out.2.2.1
        rw [H3.out.2.1] at hroom3
        have HRM := Lib.hid hroom3
        have hLw : IntKind.i64.wrap (L - (n : Int)) = L - (n : Int) := by rw [IntKind.wrap_i64]; omega
        clear hroom3
        have HLL := Lib.hid hL
        go_wp2_with fail
        refine HRM.out.mono ?_
        rintro e w4 ⟨rfl, q4, rfl⟩
        have H4 : Hid (DM (w3.drewN q4) w0.heap.size d (2 * k + 1) M' ∧ Below w.heap.size w (w3.drewN q4) ∧ w0.heap.size ≤ (w3.drewN q4).heap.size) := Lib.hid ⟨H3.out.2.2.1.keep fun _ _ _ _ => rfl, below_drewN' H3.out.2.2.2.1 q4, H3.out.2.2.2.2⟩
        generalize w3.drewN q4 = w4 at H4 ⊢
        obtain ⟨tx, cc, M2, f1, f2, f3, f4⟩ := rem_room H3.out.1 nm
        rw [H3.out.2.1] at f4
        have HON := Lib.hid H3.out.1
        have HRO := Lib.hid H3.out.2.1
        have HRD := Lib.hid (f1 ▸ read_dm H4.out.1 nm HNZ.out)
        have F2 := Lib.hid f2
        have F3 := Lib.hid (And.intro f3 f4)
        clear f1 f2 f3 f4 HRM H3 HD2 HAP HM
        by_cases h5 : (k : Int) % 5 = 4
        · go_wp2_with fail
          refine HRD.out.mono ?_
          rintro e w5 ⟨rfl, hb5⟩
          have H5 := Lib.hid (And.intro (H4.out.1.below hb5) (And.intro (H4.out.2.1.trans (hb5.mono H4.out.2.1.size)) (Nat.le_trans H4.out.2.2 hb5.size)))
          clear hb5 HRD H4
          have HC := rem_told H5.out.1 (by omega) nm HNZ.out
          rw [F2.out] at HC
          have HC := Lib.hid HC
          go_wp2_with fail
          refine HC.out.mono ?_
          rintro e w6 ⟨rfl, hT⟩
          have H6 := Lib.hid (Rel.turn hT H5.out.2.1 H5.out.2.2 H0.out.size (show 2 * k + 1 + 1 = 2 * (k + 1) by omega))
          have hw6 : IntKind.i64.wrap ((L - (n : Int)) + (tx.size : Int)) = (L - (n : Int)) + (tx.size : Int) := by
            have h1 := H6.out.1.room_le
            rw [F3.out.2] at h1
            rw [IntKind.wrap_i64]; omega
          have HF : Hid (Rel w0 w w6 d (k + 1) ((L - (n : Int)) + (tx.size : Int))) := Lib.hid ⟨M2, F3.out.1, F3.out.2, H6.out.1, H6.out.2.1, H6.out.2.2, H0.out.size⟩
          have h7 := H6.out.1.room_le
          rw [F3.out.2] at h7
          clear hT HC H5 H6
          go_wp2
          go_roundw
          case rel => exact ⟨k + 1, (L - (n : Int)) + (tx.size : Int), by omega, by go_num, rfl, HF⟩
          case measure => simp [intOf]; omega
        · have HF : Hid (Rel w0 w w4 d (k + 1) ((L - (n : Int)))) := Lib.hid ⟨M', HON.out, HRO.out, H4.out.1.mono (by omega), H4.out.2.1, H4.out.2.2, H0.out.size⟩
          clear HRD H4
          go_wp2
          go_roundw
          case rel => exact ⟨k + 1, (L - (n : Int)), by omega, by go_num, rfl, HF⟩
          case measure => simp [intOf]; omega
      · have e1 := HAP.out.2 (by omega)
        rw [e1] at HA
        refine HA.mono ?_
        rintro e w3 ⟨rfl, hT⟩
        obtain ⟨M', hM'⟩ : ∃ M', M' = M := ⟨_, rfl⟩
        have H3 := Lib.hid (And.intro HM.out.1 (And.intro HM.out.2.1 (Rel.turn hT HD2.out.2.1 HD2.out.2.2 HM.out.2.2.2.2.2 rfl)))
        rw [← hM'] at H3
        clear hT HA e1 cv1 cv2 hmk hx hn hq hq3 hq4 hM'
        have hroom3 := room_dm H3.out.2.2.1
        rw [H3.out.2.1] at hroom3
        have HRM := Lib.hid hroom3
        clear hroom3
        go_wp2_with fail
        refine HRM.out.mono ?_
        rintro e w4 ⟨rfl, q4, rfl⟩
        have H4 : Hid (DM (w3.drewN q4) w0.heap.size d (2 * k + 1) M' ∧ Below w.heap.size w (w3.drewN q4) ∧ w0.heap.size ≤ (w3.drewN q4).heap.size) := Lib.hid ⟨H3.out.2.2.1.keep fun _ _ _ _ => rfl, below_drewN' H3.out.2.2.2.1 q4, H3.out.2.2.2.2⟩
        generalize w3.drewN q4 = w4 at H4 ⊢
        obtain ⟨tx, cc, M2, f1, f2, f3, f4⟩ := rem_room H3.out.1 nm
        rw [H3.out.2.1] at f4
        have HON := Lib.hid H3.out.1
        have HRO := Lib.hid H3.out.2.1
        have HRD := Lib.hid (f1 ▸ read_dm H4.out.1 nm HNZ.out)
        have F2 := Lib.hid f2
        have F3 := Lib.hid (And.intro f3 f4)
        clear f1 f2 f3 f4 HRM H3 HD2 HAP HM
        by_cases h5 : (k : Int) % 5 = 4
        · go_wp2_with fail
          refine HRD.out.mono ?_
          rintro e w5 ⟨rfl, hb5⟩
          have H5 := Lib.hid (And.intro (H4.out.1.below hb5) (And.intro (H4.out.2.1.trans (hb5.mono H4.out.2.1.size)) (Nat.le_trans H4.out.2.2 hb5.size)))
          clear hb5 HRD H4
          have HC := rem_told H5.out.1 (by omega) nm HNZ.out
          rw [F2.out] at HC
          have HC := Lib.hid HC
          go_wp2_with fail
          refine HC.out.mono ?_
          rintro e w6 ⟨rfl, hT⟩
          have H6 := Lib.hid (Rel.turn hT H5.out.2.1 H5.out.2.2 H0.out.size (show 2 * k + 1 + 1 = 2 * (k + 1) by omega))
          have hw6 : IntKind.i64.wrap (L + (tx.size : Int)) = L + (tx.size : Int) := by
            have h1 := H6.out.1.room_le
            rw [F3.out.2] at h1
            rw [IntKind.wrap_i64]; omega
          have HF : Hid (Rel w0 w w6 d (k + 1) (L + (tx.size : Int))) := Lib.hid ⟨M2, F3.out.1, F3.out.2, H6.out.1, H6.out.2.1, H6.out.2.2, H0.out.size⟩
          have h7 := H6.out.1.room_le
          rw [F3.out.2] at h7
          clear hT HC H5 H6
          go_wp2
          go_roundw
          case rel => exact ⟨k + 1, L + (tx.size : Int), by omega, by go_num, rfl, HF⟩
          case measure => simp [intOf]; omega
        · have HF : Hid (Rel w0 w w4 d (k + 1) (L)) := Lib.hid ⟨M', HON.out, HRO.out, H4.out.1.mono (by omega), H4.out.2.1, H4.out.2.2, H0.out.size⟩
          clear HRD H4
          go_wp2
          go_roundw
          case rel => exact ⟨k + 1, L, by omega, by go_num, rfl, HF⟩
          case measure => simp [intOf]; omega
    · obtain rfl : k = len := by omega
      have hge : ¬ (k : Int) < (k : Int) := by omega
      obtain ⟨M, ho, hroom, hD, hb, hz1, hz2⟩ := HR.out
      have HRM := room_dm hD
      rw [hroom] at HRM
      have HB := Lib.hid hb
      clear hlt ho hroom hD hb hz1 hz2 HR
      go_wp2_with fail
      refine HRM.mono ?_
      rintro e w4 ⟨rfl, q4, rfl⟩
      have H4 := Lib.hid (below_drewN' HB.out q4)
      generalize wr.drewN q4 = w4 at H4 ⊢
      clear HRM HB
      go_wp2_with fail
      refine (new_dm _ (-5)).mono ?_
      rintro e w5 ⟨d5, rfl, hD5, hb5⟩
      have HRM := Lib.hid (room_dm hD5)
      rw [show (⟨[], min (max (-5) 0) 1048576, false, -1⟩ : MS).room = 0 from rfl] at HRM
      have H5 := Lib.hid (H4.out.trans (hb5.mono H4.out.size))
      clear hD5 hb5 H4
      go_wp2_with fail
      refine HRM.out.mono ?_
      rintro e w6 ⟨rfl, q6, rfl⟩
      have H6 := Lib.hid (below_drewN' H5.out q6)
      generalize w5.drewN q6 = w6 at H6 ⊢
      clear HRM H5
      go_wp2_with fail
      refine (new_dm _ 1073741824).mono ?_
      rintro e w7 ⟨d7, rfl, hD7, hb7⟩
      have HRM := Lib.hid (room_dm hD7)
      rw [show (⟨[], min (max 1073741824 0) 1048576, false, -1⟩ : MS).room = 1048576 from rfl] at HRM
      have H7 := Lib.hid (H6.out.trans (hb7.mono H6.out.size))
      clear hD7 hb7 H6
      go_wp2_with fail
      refine HRM.out.mono ?_
      rintro e w8 ⟨rfl, q8, rfl⟩
      have H8 := Lib.hid (below_drewN' H7.out q8)
      generalize w7.drewN q8 = w8 at H8 ⊢
      clear HRM H7
      go_wp2
      go_ret
      exact ⟨rfl, H8.out⟩

theorem walk {w : World} (z : Int) (_ : Lit.wf (.int .i64 z) = true) (a : Option Addr) (len cap : Nat) (zs : List Int) (hrow : IsRow .i64 w a len cap zs) :
    Calls Try.prog 7 #[.int .i64 z, .slice a len cap] w fun e w' => e = .returned (.bool true) ∧ Below w.heap.size w w' := by
  by_cases h : len ≤ 40
  · exact walk_few z a len cap zs hrow h
  · have h40 : (40 : Int) < (len : Int) := by omega
    clear hrow
    go_enter Try.func7, Try.ntmps7
    go_wp2_with fail
    refine (dhead_any _).mono ?_
    rintro e w0 ⟨rfl, hb0⟩
    have H0 := Lib.hid hb0
    clear hb0
    go_wp2
    go_ret
    exact ⟨rfl, H0.out⟩

end Go.Proofs.Ytkeopkhbcmeplaa.diskRooms
