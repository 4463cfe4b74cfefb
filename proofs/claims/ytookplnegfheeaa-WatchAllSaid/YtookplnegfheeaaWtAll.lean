/-
  WatchAll: its walk.
-/
import Derived.Test.YtookplnegfheeaaWtAlM
import Derived.Deep.RegionLaw
import Derived.Deep.DeepCutAuto
import Derived.Test.YtookplnegfheeaaMid
import Derived.StillTailTactics
namespace Go.Proofs.Ytookplnegfheeaa.watchAll
open Go.RowKit Go.Proofs.Ytookplnegfheeaa.tC Go.Proofs.Ytookplnegfheeaa.sT Go.Proofs.Ytookplnegfheeaa.wT Go.Proofs.Ytookplnegfheeaa.storeFrees

set_option linter.unusedVariables false
set_option linter.unusedSimpArgs false

theorem and_7 (n : Int) : bits .and .i64 n 7 = n % 8 := by
  have hc : (BitVec.ofInt 64 7).toNat = 2 ^ 3 - 1 := by decide
  have key : (BitVec.ofInt 64 n &&& BitVec.ofInt 64 7).toNat = (n % ((2 ^ 64 : Nat) : Int)).toNat % 2 ^ 3 := by
    rw [BitVec.toNat_and, BitVec.toNat_ofInt, hc, Nat.and_two_pow_sub_one_eq_mod]
  show IntKind.i64.wrap ((BitVec.ofInt 64 n &&& BitVec.ofInt 64 7).toNat : Nat) = n % 8
  rw [key, IntKind.wrap_i64]
  omega

/-- a store and its commits, plainly -/
structure AlP (M : StM) (L : List CmM) : Prop where
  sg : SG M (L.length * 13)
  low : M.low = 0
  cms : M.cms = L
  seqs : SeqsL L
  ats : ∀ c ∈ L, c.at_ ≤ 1048576
  wss : ∀ c ∈ L, c.ws.length ≤ 12
theorem AlP.last {M : StM} {L : List CmM} (h : AlP M L) : (M.last : Int) = (L.length : Int) := by
  have : M.last = M.low + M.cms.length := rfl
  rw [this, h.low, h.cms]; omega
theorem AlP.fits {M : StM} {L : List CmM} (h : AlP M L) (hL : L.length ≤ 1000) (y : List Wr) : M.fits ((L.length : Int) + 1) 1048576 (someW y) = true := by
  have hle : M.least ≤ 1048576 := by
    unfold StM.least
    rw [h.cms]
    cases hl : L.getLast? with
    | none => simp
    | some c => exact h.ats c (List.mem_of_getLast? hl)
  unfold StM.fits
  rw [h.last, someW_right, decide_eq_true hle, decide_eq_true (show ((L.length : Int) + 1 = (L.length : Int) + 1) from rfl), decide_eq_true (show ((L.length : Int) + 1 ≤ 1099511627776) by omega), decide_eq_true (show ((1048576 : Int) ≤ 1099511627776) by omega)]
  rfl
theorem AlP.next {M : StM} {L : List CmM} (h : AlP M L) (hL : L.length ≤ 1000) (y : List Wr) : AlP (M.commit ((L.length : Int) + 1) 1048576 (someW y)) (L ++ [⟨(L.length : Int) + 1, 1048576, someW y⟩]) := by
  obtain ⟨e1, e2⟩ := commit_low M ((L.length : Int) + 1) 1048576 (someW y)
  have hln := someW_len y
  refine ⟨(h.sg.commit (h.fits hL y)).mono (by rw [List.length_append, List.length_singleton]; omega), by rw [e1, h.low], by rw [e2, h.cms], fun i hi => ?_, fun c hc => ?_, fun c hc => ?_⟩
  · rw [List.length_append, List.length_singleton] at hi
    by_cases hil : i < L.length
    · rw [List.getElem_append_left hil]
      exact h.seqs i hil
    · obtain rfl : i = L.length := by omega
      simp
  · rcases List.mem_append.1 hc with hc | hc
    · exact h.ats c hc
    · simp at hc; subst hc; exact Int.le_refl _
  · rcases List.mem_append.1 hc with hc | hc
    · exact h.wss c hc
    · simp at hc; subst hc; exact hln
theorem alp_start (wss : List (List Wr)) (hl : wss.length ≤ 100) : AlP ((madeM 0 [] (listC 1 wss)).vacuum 0) (listC 1 wss) := by
  obtain ⟨h1, h2, h3⟩ := made_sg wss (by omega) 0 (Nat.zero_le _)
  refine ⟨by rw [listC_len]; exact h1, h2, by rw [h3, List.drop_zero], seqs_list wss, fun c hc => ?_, listC_12 1 wss⟩
  obtain ⟨i, hi, rfl⟩ := List.getElem_of_mem hc
  have hi2 := hi
  rw [listC_len] at hi2
  have := listC_get 1 wss i hi2
  rw [List.getElem?_eq_getElem hi] at this
  rw [Option.some.inj this]
  simp only
  omega

/-- a commit's box, laid but not written yet -/
structure BxF (wq wx : World) (cb : Nat) : Prop where
  box : Box wx cb 43 #[.int .i64 0, .int .i64 0, .slice none 0 0]
  lo : wq.heap.size ≤ cb
theorem bx_after {wq X wL : World} (hq : Below wq.heap.size wq X) (h : Below (X.alloc (.cells #[.int .i64 0, .int .i64 0, .slice none 0 0] 43)).heap.size (X.alloc (.cells #[.int .i64 0, .int .i64 0, .slice none 0 0] 43)) wL) : BxF wq wL X.heap.size :=
  ⟨(h.block _ (by simp)).trans (Box.new X 43 _), hq.size⟩
theorem bx_keep {wq wX wL : World} {cb : Nat} (h : BxF wq wX cb) (hb : Below wX.heap.size wX wL) : BxF wq wL cb := ⟨(hb.block _ h.box.lt).trans h.box, h.lo⟩
/-- the commit that is made -/
def CmF (wq wx : World) (cb : Nat) (ln : Nat) (y : List Wr) : Prop := ∃ xa xl xc, Below wq.heap.size wq wx ∧ wq.heap.size ≤ cb ∧ Box wx cb 43 #[.int .i64 ((ln : Int) + 1), .int .i64 1048576, .slice xa xl xc] ∧ xl = (someW y).length ∧ RowK 81 3 wq.heap.size wx (.slice xa xl xc) xl ((someW y).flatMap wrcells)
theorem fin_new {wq wF : World} {ln : Nat} {y : List Wr} {xa : Option Addr} {xl xc : Nat} (hq : Below wq.heap.size wq wF) (h1 : xl = (someW y).length) (h2 : RowK 81 3 wq.heap.size wF (.slice xa xl xc) xl ((someW y).flatMap wrcells)) : CmF wq (wF.alloc (.cells #[.int .i64 ((ln : Int) + 1), .int .i64 1048576, .slice xa xl xc] 43)) wF.heap.size ln y :=
  ⟨xa, xl, xc, hq.alloc hq.size _, hq.size, Box.new wF 43 _, h1, h2.below ((Below.refl _ _).alloc (Nat.le_refl _) _)⟩
theorem fin_old {wq wF : World} {cb ln : Nat} {y : List Wr} {xa : Option Addr} {xl xc : Nat} (hq : Below wq.heap.size wq wF) (h1 : xl = (someW y).length) (h2 : RowK 81 3 wq.heap.size wF (.slice xa xl xc) xl ((someW y).flatMap wrcells)) (hb : BxF wq wF cb) : CmF wq (((wF.setCell ⟨cb, 0, none⟩ (.int .i64 ((ln : Int) + 1))).setCell ⟨cb, 1, none⟩ (.int .i64 1048576)).setCell ⟨cb, 2, none⟩ (.slice xa xl xc)) cb ln y := by
  have hbx := ((hb.box.setSame 0 (.int .i64 ((ln : Int) + 1))).setSame 1 (.int .i64 1048576)).setSame 2 (.slice xa xl xc)
  refine ⟨xa, xl, xc, ((hq.setCell (p := ⟨cb, 0, none⟩) hb.lo _).setCell (p := ⟨cb, 1, none⟩) hb.lo _).setCell (p := ⟨cb, 2, none⟩) hb.lo _, hb.lo, by simpa using hbx, h1, h2.keep fun q hqo => ⟨?_, (h2.lt q hqo).1⟩⟩
  have hne : q ≠ cb := by
    obtain ⟨arr, hbq⟩ := rowk_box h2 hqo
    exact box_ne hbq hb.box (by decide)
  exact ((Below.heap_setCell _ ⟨cb, 2, none⟩ _ q hne).trans (Below.heap_setCell _ ⟨cb, 1, none⟩ _ q hne)).trans (Below.heap_setCell wF ⟨cb, 0, none⟩ _ q hne)

/-- between two rounds -/
def AlI (w wr : World) (s : Nat) (lv tv : Value) (len m nx tn ln : Nat) (p : ByteArray) : Prop := ∃ M L, AlP M L ∧ L.length = ln ∧ ln = len + nx ∧ m ≤ ln ∧ tn = (told p (L.take m)).length ∧ AlS w wr s M lv L tv (told p (L.take m))

theorem walk_out1 {w : World} (a : Option Addr) (len cap : Nat) (a1 : Option Addr) (len1 cap1 : Nat) (p : ByteArray) (a2 : Option Addr) (ln2 cap2 : Nat) (h : 20 < len) :
    Calls Try.prog 8 #[.slice a len cap, .slice a1 len1 cap1, .string p, .slice a2 ln2 cap2] w fun e W' => e = .returned (.bool true) ∧ Below w.heap.size w W' := by
  have hI : (20 : Int) < (len : Int) := by omega
  clear h
  go_enter Try.func8, Try.ntmps8
  go_wp2_with fail
  refine (head17_any _).mono ?_
  rintro e w1 ⟨rfl, hb1⟩
  have HB1 := Lib.hid hb1
  clear hb1
  go_wp2
  first | exact ⟨rfl, HB1.out⟩ | (go_ret; exact ⟨rfl, HB1.out⟩)

theorem walk_out2 {w : World} (a : Option Addr) (len cap : Nat) (a1 : Option Addr) (len1 cap1 : Nat) (p : ByteArray) (a2 : Option Addr) (ln2 cap2 : Nat) (h : len ≤ 20 ∧ 20 < len1) :
    Calls Try.prog 8 #[.slice a len cap, .slice a1 len1 cap1, .string p, .slice a2 ln2 cap2] w fun e W' => e = .returned (.bool true) ∧ Below w.heap.size w W' := by
  have hI : ((20 : Int) < (len : Int)) = False := eq_false (by omega)
  have hJ : (20 : Int) < (len1 : Int) := by omega
  clear h
  go_enter Try.func8, Try.ntmps8
  go_wp2_with fail
  refine (head17_any _).mono ?_
  rintro e w1 ⟨rfl, hb1⟩
  have HB1 := Lib.hid hb1
  clear hb1
  go_wp2
  first | exact ⟨rfl, HB1.out⟩ | (go_ret; exact ⟨rfl, HB1.out⟩)

theorem walk_out3 {w : World} (a : Option Addr) (len cap : Nat) (a1 : Option Addr) (len1 cap1 : Nat) (p : ByteArray) (a2 : Option Addr) (ln2 cap2 : Nat) (h : len ≤ 20 ∧ len1 ≤ 20 ∧ 60 < p.size) :
    Calls Try.prog 8 #[.slice a len cap, .slice a1 len1 cap1, .string p, .slice a2 ln2 cap2] w fun e W' => e = .returned (.bool true) ∧ Below w.heap.size w W' := by
  have hI : ((20 : Int) < (len : Int)) = False := eq_false (by omega)
  have hJ : ((20 : Int) < (len1 : Int)) = False := eq_false (by omega)
  have hK : (60 : Int) < (p.size : Int) := by omega
  clear h
  go_enter Try.func8, Try.ntmps8
  go_wp2_with fail
  refine (head17_any _).mono ?_
  rintro e w1 ⟨rfl, hb1⟩
  have HB1 := Lib.hid hb1
  clear hb1
  go_wp2
  first | exact ⟨rfl, HB1.out⟩ | (go_ret; exact ⟨rfl, HB1.out⟩)

theorem walk_out4 {w : World} (a : Option Addr) (len cap : Nat) (a1 : Option Addr) (len1 cap1 : Nat) (p : ByteArray) (a2 : Option Addr) (ln2 cap2 : Nat) (h : len ≤ 20 ∧ len1 ≤ 20 ∧ p.size ≤ 60 ∧ 30 < ln2) :
    Calls Try.prog 8 #[.slice a len cap, .slice a1 len1 cap1, .string p, .slice a2 ln2 cap2] w fun e W' => e = .returned (.bool true) ∧ Below w.heap.size w W' := by
  have hI : ((20 : Int) < (len : Int)) = False := eq_false (by omega)
  have hJ : ((20 : Int) < (len1 : Int)) = False := eq_false (by omega)
  have hK : ((60 : Int) < (p.size : Int)) = False := eq_false (by omega)
  have hL : (30 : Int) < (ln2 : Int) := by omega
  clear h
  go_enter Try.func8, Try.ntmps8
  go_wp2_with fail
  refine (head17_any _).mono ?_
  rintro e w1 ⟨rfl, hb1⟩
  have HB1 := Lib.hid hb1
  clear hb1
  go_wp2
  first | exact ⟨rfl, HB1.out⟩ | (go_ret; exact ⟨rfl, HB1.out⟩)


attribute [-go_sem] Builtin.append_
attribute [local irreducible] wpStill
set_option maxHeartbeats 8000000 in
set_option maxRecDepth 100000 in
theorem walk_main {w : World} (a : Option Addr) (len cap : Nat) {wss : List (List Wr)} (hW : WwsCame w a len wss) (hle : len ≤ 20) (a1 : Option Addr) (len1 cap1 : Nat) {mss : List (List Wr)} (hM : WwsCame w a1 len1 mss) (hle1 : len1 ≤ 20) (p : ByteArray) (hp : p.size ≤ 60) (a2 : Option Addr) (ln2 cap2 : Nat) (hln : ln2 ≤ 30) (zs : List Int) (hcx : ∀ i, i < ln2 → ∃ x, a2 = some x ∧ w.cell? (x.add i) = some (.int .i64 (zs.getD i 0))) :
    Calls Try.prog 8 #[.slice a len cap, .slice a1 len1 cap1, .string p, .slice a2 ln2 cap2] w fun e W' => e = .returned (.bool true) ∧ Below w.heap.size w W' := by
  have hI20 : ((20 : Int) < (len : Int)) = False := eq_false (by omega)
  have hJ20 : ((20 : Int) < (len1 : Int)) = False := eq_false (by omega)
  have hI60 : ((60 : Int) < (p.size : Int)) = False := eq_false (by omega)
  have hI30 : ((30 : Int) < (ln2 : Int)) = False := eq_false (by omega)
  have hlen := hW.1
  have HMD := Lib.hid (fun (w1 : World) (hb : Below w.heap.size w w1) => made17_any cap hW (by omega) w1 hb 0 (Nat.zero_le _))
  have HAP := Lib.hid (And.intro (alp_start wss (by omega)) (listC_len 1 wss))
  have HMO := Lib.hid hM
  have HCX : Hid (∀ W', Below w.heap.size w W' → ∀ i, i < ln2 → ∃ x, a2 = some x ∧ W'.cell? (x.add i) = some (.int .i64 (zs.getD i 0))) := Lib.hid fun W' hb i hi => by
    obtain ⟨x, e, hc⟩ := hcx i hi
    exact ⟨x, e, (hb.cell (p := x.add i) (World.block_lt_of_cell? w _ hc)).trans hc⟩
  have HPO : Hid (∀ w2 s M L m (most : Int), AlP M L → (∃ P, StoreAt P w2 s M) → L.length ≤ 40 → m ≤ L.length → 1 ≤ most → most ≤ 100 → Calls Try.prog 37 #[.pointer (some ⟨s, 0, none⟩), .int .i64 ((m : Nat) : Int), .string p, .int .i64 most] w2 fun e W' => ∃ n oa oc mk, e = .returned (.tuple #[.agg #[.slice oa n oc, .int .i64 ((mk : Nat) : Int)], .int .i64 0]) ∧ Hid (PlO w2 W' L m p most n oa oc mk)) := Lib.hid fun w2 s M L m most hA hS hL hm h1 h2 => by
    obtain ⟨P, hP⟩ := hS
    exact poll_gen hP hA.sg (by omega) hA.seqs (by rw [hA.low]; omega) (by rw [hA.cms, hA.low, List.drop_zero]) m (by rw [hA.low]; omega) hm p (by omega) most h1 h2
  clear hW hM hcx hp
  go_enter Try.func8, Try.ntmps8
  go_wp2_with fail
  refine (head17_any _).mono ?_
  rintro e w1 ⟨rfl, hb1⟩
  have HMD1 := Lib.hid (And.intro hb1 (HMD.out w1 hb1))
  clear hb1 HMD
  go_wp2_with fail
  refine HMD1.out.2.mono ?_
  rintro e w2 ⟨s, la, lc, rfl, HS⟩
  have H0 : Hid (AlI w (w2.alloc (.cells #[] 43)) s (.slice la len lc) (.slice (some ⟨w2.heap.size, 0, none⟩) 0 0) len 0 0 0 len p) := Lib.hid (by
    obtain ⟨g1, K, g2, g3, g7⟩ := HS.out
    have hz1 := HMD1.out.1.size
    have hbA : Below w2.heap.size w2 (w2.alloc (.cells #[] 43)) := (Below.refl _ _).alloc (Nat.le_refl _) _
    have hlow : Below w.heap.size w w2 := HMD1.out.1.trans (g1.mono hz1)
    have hzA : (w2.alloc (.cells #[] 43)).heap.size = w2.heap.size + 1 := by simp
    obtain ⟨g4, g5, g6⟩ := g2
    have h9 : Sep w.heap.size K w2 s ((madeM 0 [] (listC 1 wss)).vacuum 0) := by
      obtain ⟨P, p1, p2⟩ := g4
      exact ⟨⟨P, p1, fun q hq => ⟨by have := (p2 q hq).1; omega, (p2 q hq).2.1, (p2 q hq).2.2⟩⟩, g5, hlow.size⟩
    refine ⟨_, _, HAP.out.1, by rw [HAP.out.2, hlen], by omega, Nat.zero_le _, rfl, hlow.trans (hbA.mono hlow.size), ⟨_, h9.below hbA, (g3.below hbA).same fun q hq _ => ⟨rfl, .inl hq⟩, ?_, fun q hq => ?_⟩, fun q hq e => ?_⟩
    · have hbx := Box.new w2 43 #[]
      exact ⟨[], RowK.mk (c := 0) hbx rfl (Nat.zero_le _) (Nat.le_refl _) (by omega) rfl (fun q hq => absurd hq (by simp [told])) (fun u hu => by simp [told, cmrow] at hu), trivial, fun q hq => by
        have h9 : some w2.heap.size = some q := hq
        injection h9 with h9
        exact .inr (by omega)⟩
    · rcases hq with hq | hq
      · have := g7 q hq; omega
      · have := hlow.size; omega
    · obtain ⟨lvs, l1, _⟩ := g3
      have h9 : some w2.heap.size = some q := e
      injection h9 with h9
      have := (l1.lt q hq).2
      omega)
  clear HMD1 HS HAP
  go_wp2_with fail
  go_loopw [10, 11, 12, 13, 14] (fun lv tv mv nv iv wr => ∃ (la : Option Addr) (ln lc : Nat) (ta : Option Addr) (tn tc m nx i : Nat), nx ≤ len1 ∧ i ≤ nx + tn ∧ tn ≤ 40 ∧ m ≤ ln ∧ ln ≤ 40 ∧ lv = .slice la ln lc ∧ tv = .slice ta tn tc ∧ mv = .int .i64 (m : Int) ∧ nv = .int .i64 (nx : Int) ∧ iv = .int .i64 (i : Int) ∧ Hid (AlI w wr s (.slice la ln lc) (.slice ta tn tc) len m nx tn ln p)) (fun _ _ _ _ iv _ => 100 - (intOf iv).toNat)
  case atStart => exact ⟨_, _, _, _, _, _, 0, 0, 0, by omega, by omega, by omega, by omega, by omega, rfl, rfl, rfl, rfl, rfl, H0⟩
  case round =>
    obtain ⟨la, ln, lc, ta, tn, tc, m, nx, i, hnx1, hitn, htn, hmln, hln40, rfl, rfl, rfl, rfl, rfl, hst⟩ := hrel
    clear H0
    obtain ⟨M, L, hAI⟩ := hst.out
    have HAL := Lib.hid hAI
    clear hst hAI
    obtain ⟨wo, hwo⟩ : ∃ wo, wo = wr := ⟨_, rfl⟩
    subst hwo
    have hi100 : (i : Int) < 100 := by omega
    have hlnx : ln + (len1 - nx) ≤ 40 := by have := HAL.out.2.2.1; omega
    by_cases hil : i < ln2
    · have hilI : (i : Int) < (ln2 : Int) := by omega
      obtain ⟨x, ex, hx⟩ := HCX.out wo HAL.out.2.2.2.2.2.low i hil
      obtain ⟨zv, hzv⟩ : ∃ zv, zv = zs.getD i 0 := ⟨_, rfl⟩
      rw [← hzv] at hx
      have hand := and_7 zv
      obtain ⟨d, hd, hdd⟩ : ∃ d : Nat, d < 8 ∧ zv % 8 = (d : Int) := ⟨(zv % 8).toNat, by omega, by omega⟩
      rw [hdd] at hand
      obtain ⟨kk, hkk⟩ : ∃ kk : Int, kk = 1 + (d : Int) := ⟨_, rfl⟩
      have HP1 := Lib.hid (HPO.out wo s M L m kk HAL.out.1 HAL.out.2.2.2.2.2.store (by rw [HAL.out.2.1]; omega) (by rw [HAL.out.2.1]; omega) (by omega) (by omega))
      have HKK : Hid (1 + (d : Int) = kk) := Lib.hid hkk.symm
      have hkk1 : 1 ≤ kk := by omega
      subst ex
      clear hzv hdd hkk
      clear HCX
      go_wp2_with fail
      try rw [HKK.out]
      refine HP1.out.mono ?_
      rintro e w5 ⟨n1, ob, od, mk1, rfl, HPL⟩
      clear HP1
      have hlo1 := HPL.out.lo
      have hn1k : (n1 : Int) ≤ kk := by have := HPL.out.len; omega
      have hhi1 : mk1 ≤ ln := by have := HPL.out.hi; have := HAL.out.2.1; omega
      have hlI : ((mk1 : Int) < (m : Int)) = False := eq_false (by omega)
      have hkI : (kk < (n1 : Int)) = False := eq_false (by omega)
      have hbA : Below w5.heap.size w5 (w5.alloc (.cells #[.slice ob n1 od, .int .i64 (mk1 : Int)] 58)) := (Below.refl _ w5).alloc (Nat.le_refl _) _
      obtain ⟨ta2, tc2, wq, hrun, HA, HG, HT⟩ := HAL.out.2.2.2.2.2.tell (by have := told_len p (L.take m); rw [List.length_take] at this; have := HAL.out.2.1; omega) HPL.out.low HPL.out.list HPL.out.num (by rw [HPL.out.num]; have := HPL.out.len; have := told_len p (L.drop m); rw [List.length_drop] at this; have := HAL.out.2.1; omega) _ hbA
      have HBX : Hid (Box wq w5.heap.size 58 #[.slice ob n1 od, .int .i64 (mk1 : Int)]) := Lib.hid (by
        have hb := Box.new w5 58 #[.slice ob n1 od, .int .i64 (mk1 : Int)]
        refine (HG.out.block _ hb.lt fun e => ?_).trans hb
        have h1 := HT.out _ e.symm
        have h2 := HPL.out.low.size
        omega)
      have HN : Hid (AlP M L ∧ L.length = ln ∧ ln = len + nx ∧ tn + n1 = (told p (L.take mk1)).length ∧ AlS w wq s M (.slice la ln lc) L (.slice ta2 (tn + n1) tc2) (told p (L.take mk1))) := Lib.hid (by
        obtain ⟨q1, q2, q3, q4, q5, q6⟩ := HAL.out
        refine ⟨q1, q2, q3, ?_, ?_⟩
        · rw [HPL.out.part, List.length_append, HPL.out.num, ← q5]
        · rw [HPL.out.part]
          exact HA.out)
      have HPR : Hid ((n1 = 0 → mk1 = ln) ∧ ((n1 : Int) ≤ kk)) := Lib.hid ⟨fun h => by
        have h1 := HPL.out.rest (by omega)
        rw [h1, HAL.out.2.1], hn1k⟩
      have htl : tn + n1 ≤ 40 := by
        have h1 := HN.out.2.2.2.1
        have h2 := told_len p (L.take mk1)
        rw [List.length_take] at h2
        have := HN.out.2.1
        omega
      have t0 := HBX.out.cell 0
      have t1 := HBX.out.cell 1
      have hb0 := (Box.new w5 58 #[.slice ob n1 od, .int .i64 (mk1 : Int)]).cell 0
      have hb1 := (Box.new w5 58 #[.slice ob n1 od, .int .i64 (mk1 : Int)]).cell 1
      simp only [List.getElem?_toArray, List.getElem?_cons_zero, List.getElem?_cons_succ] at t0 t1 hb0 hb1
      have HMM := Lib.hid (And.intro hlo1 (And.intro hhi1 hn1k))
      clear hbA hn1k HPL HAL HG HT HA
      by_cases hnx : nx < len1
      · have hnxI : (nx : Int) < (len1 : Int) := by omega
        obtain ⟨mb, mo, em, hmlt, hmv⟩ := HMO.out.2.1.resolve_left (fun e => by have := HMO.out.1; rw [e] at this; simp at this; omega)
        obtain ⟨ya, yc, k0, hyw⟩ := hmv nx (by have := HMO.out.1; omega)
        obtain ⟨hys, hyl9⟩ := HMO.out.2.2 _ (List.getElem_mem (show nx < mss.length by have := HMO.out.1; omega))
        obtain ⟨y, hy⟩ : ∃ y, y = mss[nx]'(by have := HMO.out.1; omega) := ⟨_, rfl⟩
        rw [← hy] at k0 hyw hys hyl9
        clear hy
        have hlowq : Below w.heap.size w wq := HN.out.2.2.2.2.low
        obtain ⟨yl, hyl⟩ : ∃ yl, yl = y.length := ⟨_, rfl⟩
        rw [← hyl] at k0
        have HK0 : Hid (∀ W', Below wq.heap.size wq W' → W'.cell? ⟨mb, mo + nx, none⟩ = some (.slice ya yl yc)) := Lib.hid fun W' hb => ((hlowq.trans (hb.mono hlowq.size)).cell (p := ⟨mb, mo + nx, none⟩) hmlt).trans k0
        have HLA : Hid (∀ W', Below wq.heap.size wq W' → Calls Try.prog 23 #[.pointer (some ⟨s, 0, none⟩)] W' fun e w2 => e = .returned (.int .i64 (ln : Int)) ∧ w2.cell? ⟨mb, mo + nx, none⟩ = some (.slice ya yl yc) ∧ mb < w2.heap.size ∧ Hid (Below W'.heap.size W' w2)) := Lib.hid fun W' hb => by
          obtain ⟨P, hP⟩ := HN.out.2.2.2.2.store
          refine (stLast_any (hP.below hb)).mono ?_
          rintro e w2 ⟨rfl, hb2⟩
          rw [HN.out.1.last, HN.out.2.1]
          exact ⟨rfl, HK0.out w2 (hb.trans (hb2.mono hb.size)), by have h1 := hlowq.size; have h2 := hb.size; have h3 := hb2.size; omega, Lib.hid hb2⟩
        have HSO : Hid (∀ W', Below wq.heap.size wq W' → Calls Try.prog 19 #[.slice ya yl yc] W' fun e w2 => ∃ xa xl xc, e = .returned (.slice xa xl xc) ∧ Hid (xl = (someW y).length ∧ RowK 81 3 wq.heap.size w2 (.slice xa xl xc) xl ((someW y).flatMap wrcells) ∧ Below W'.heap.size W' w2)) := Lib.hid fun W' hb => by
          refine (some_any (cap := yc) (hyw.below (hlowq.trans (hb.mono hlowq.size))) hyl.symm (by omega) hys).mono ?_
          rintro e w2 ⟨xa, xc, rfl, r1, r2⟩
          exact ⟨xa, _, xc, rfl, Lib.hid ⟨rfl, r1.keep fun q hq => ⟨rfl, Nat.le_trans hb.size (r1.lt q hq).1⟩, r2⟩⟩
        have HQ : Hid (Below wq.heap.size wq wq.drew) := Lib.hid (Below.refl _ _).drew
        have k1 := HK0.out wq (Below.refl _ _)
        have hmq : mb < wq.heap.size := by have := hlowq.size; omega
        have hlnw : IntKind.i64.wrap ((ln : Int) + 1) = (ln : Int) + 1 := by rw [IntKind.wrap_i64]; omega
        subst em
        have HCM : Hid (∀ (wG : World) cb, CmF wq wG cb ln y → ∃ xa xl xc, (wG.cell? ⟨cb, 0, none⟩ = some (.int .i64 ((ln : Int) + 1)) ∧ wG.cell? ⟨cb, 1, none⟩ = some (.int .i64 1048576) ∧ wG.cell? ⟨cb, 2, none⟩ = some (.slice xa xl xc)) ∧ Hid (Calls Try.prog 29 #[.pointer (some ⟨s, 0, none⟩), .agg #[.int .i64 ((ln : Int) + 1), .int .i64 1048576, .slice xa xl xc]] wG fun e w7 =>
            e = .returned (.int .i64 0) ∧ (w7.cell? ⟨cb, 0, none⟩ = some (.int .i64 ((ln : Int) + 1)) ∧ w7.cell? ⟨cb, 1, none⟩ = some (.int .i64 1048576) ∧ w7.cell? ⟨cb, 2, none⟩ = some (.slice xa xl xc)) ∧ ∃ a3 c3 W3, (∀ ty, (Builtin.append_ #[27, 27] ty #[.slice la ln lc, .slice (some ⟨w7.heap.size, 0, none⟩) 1 1]).run Try.prog (w7.alloc (.cells #[.int .i64 ((ln : Int) + 1), .int .i64 1048576, .slice xa xl xc] 43)) = .ok (.slice a3 (ln + 1) c3) W3) ∧ Hid (AlI w W3 s (.slice a3 (ln + 1) c3) (.slice ta2 (tn + n1) tc2) len mk1 (nx + 1) (tn + n1) (ln + 1) p))) := Lib.hid fun wG cb ⟨xa, xl, xc, h1, h0, hbx0, h2, h3⟩ => by
          subst h2
          refine ⟨xa, _, xc, ⟨hbx0.cell 0, hbx0.cell 1, hbx0.cell 2⟩, Lib.hid ?_⟩
          obtain ⟨q1, q2, q3, q4, q5⟩ := HN.out
          have hsy := someW_len y
          have hL40 := HMM.out.2.1
          have hfit := q1.fits (by omega) y
          rw [q2] at hfit
          refine (q5.commit q1.sg (by omega) hfit h1 h3 _ (Below.refl _ _)).mono ?_
          rintro e w7 ⟨rfl, hX⟩
          obtain ⟨K, ⟨r1, r2, r3, r4, r5⟩, r6, r7⟩ := hX.out
          have hbx : Box w7 cb 43 #[.int .i64 ((ln : Int) + 1), .int .i64 1048576, .slice xa (someW y).length xc] := (r7 cb h0 hbx0.lt).trans hbx0
          obtain ⟨a3, c3, W3, s1, s2⟩ := AlS.list (sq := (ln : Int) + 1) (at_ := 1048576) q5.ne r1.low r2 r3 r4 r5 (by omega) r6
          refine ⟨rfl, ⟨hbx.cell 0, hbx.cell 1, hbx.cell 2⟩, a3, c3, W3, s1, Lib.hid ?_⟩
          have hnx := q1.next (by omega) y
          rw [q2] at hnx
          have htk : (L ++ [(⟨(ln : Int) + 1, 1048576, someW y⟩ : CmM)]).take mk1 = L.take mk1 := List.take_append_of_le_length (by have := HMM.out.2.1; omega)
          refine ⟨_, _, hnx, by rw [List.length_append, List.length_singleton, q2], by omega, by have := HMM.out.2.1; omega, by rw [htk]; exact q4, ?_⟩
          rw [htk]
          exact s2.out
        clear hmv k0 hyw hys hyl9 hlowq hyl
        go_upto_region 21 with fail
        clear hrun hb0 hb1 t0 t1
        go_cut [18] (fun v wx => ∃ cb, v = .pointer (some ⟨cb, 0, none⟩) ∧ Hid (CmF wq wx cb ln y))
        case first =>
          clear HCM HN HMM HPR HBX
          go_region_law (first
            | (go_simp; go_at_call 23; refine (HLA.out _ (by first | exact HQ.out | exact HQ.out.alloc HQ.out.size _)).mono ?_; rintro e wL ⟨rfl, k1, hml, hbL⟩; (first | (have HRW := Lib.hid (And.intro HRW.out.1 (HRW.out.2.below hbL.out))) | (have HRW := Lib.hid (And.intro HRW.out.1 (HRW.out.2.below (((Below.refl _ _).alloc (Nat.le_refl _) _).trans (hbL.out.mono (by simp)))))) | skip); (first | (have HBX := Lib.hid (bx_after HQ.out hbL.out)) | (have HBX := Lib.hid (bx_keep HBX.out hbL.out)) | skip); (first | (have HQ := Lib.hid (HQ.out.trans (Below.mono hbL.out HQ.out.size))) | (have HQ := Lib.hid ((HQ.out.alloc HQ.out.size _).trans (Below.mono hbL.out (HQ.out.alloc HQ.out.size _).size)))); (first | (have b0 := HBX.out.box.cell 0; have b1 := HBX.out.box.cell 1; have b2 := HBX.out.box.cell 2; have f0 := HBX.out.box.free 0; have f1 := HBX.out.box.free 1; have f2 := HBX.out.box.free 2; simp only [List.getElem?_toArray, List.getElem?_cons_zero, List.getElem?_cons_succ] at b0 b1 b2; ((try change wL.cell? ⟨wq.heap.size, 0, none⟩ = _ at b0)); ((try change wL.cell? ⟨wq.heap.size, 1, none⟩ = _ at b1)); ((try change wL.cell? ⟨wq.heap.size, 2, none⟩ = _ at b2)); ((try change wL.frozen? ⟨wq.heap.size, 0, none⟩ = _ at f0)); ((try change wL.frozen? ⟨wq.heap.size, 1, none⟩ = _ at f1)); ((try change wL.frozen? ⟨wq.heap.size, 2, none⟩ = _ at f2))) | skip))
            | (go_simp; go_at_call 19; refine (HSO.out _ (by first | exact HQ.out | exact HQ.out.alloc HQ.out.size _)).mono ?_; rintro e wS ⟨xa, xl, xc, rfl, hXS⟩; (first | (have HBX := Lib.hid (bx_after HQ.out hXS.out.2.2)) | (have HBX := Lib.hid (bx_keep HBX.out hXS.out.2.2)) | skip); (first | (have HQ := Lib.hid (HQ.out.trans (Below.mono hXS.out.2.2 HQ.out.size))) | (have HQ := Lib.hid ((HQ.out.alloc HQ.out.size _).trans (Below.mono hXS.out.2.2 (HQ.out.alloc HQ.out.size _).size)))); (first | (have b0 := HBX.out.box.cell 0; have b1 := HBX.out.box.cell 1; have b2 := HBX.out.box.cell 2; have f0 := HBX.out.box.free 0; have f1 := HBX.out.box.free 1; have f2 := HBX.out.box.free 2; simp only [List.getElem?_toArray, List.getElem?_cons_zero, List.getElem?_cons_succ] at b0 b1 b2; ((try change wS.cell? ⟨wq.heap.size, 0, none⟩ = _ at b0)); ((try change wS.cell? ⟨wq.heap.size, 1, none⟩ = _ at b1)); ((try change wS.cell? ⟨wq.heap.size, 2, none⟩ = _ at b2)); ((try change wS.frozen? ⟨wq.heap.size, 0, none⟩ = _ at f0)); ((try change wS.frozen? ⟨wq.heap.size, 1, none⟩ = _ at f1)); ((try change wS.frozen? ⟨wq.heap.size, 2, none⟩ = _ at f2))) | skip); have HRW := Lib.hid (And.intro hXS.out.1 hXS.out.2.1)))
          all_goals
            go_wp2_with fail
            go_meet
            first
              | exact ⟨_, rfl, Lib.hid (fin_new HQ.out HRW.out.1 HRW.out.2)⟩
              | exact ⟨_, rfl, Lib.hid (fin_old HQ.out HRW.out.1 HRW.out.2 HBX.out)⟩
        case rest =>
          obtain ⟨cb, rfl, hX⟩ := hcut
          obtain ⟨xa, xl, xc, ⟨d0, d1, d2⟩, HC⟩ := HCM.out _ _ hX.out
          clear HCM hX HLA HSO HK0 HQ k1 HN
          go_wp2_with fail
          refine HC.out.mono ?_
          rintro e w7 ⟨rfl, ⟨c0, c1, c2⟩, a3, c3, W3, hrun3, HNN⟩
          clear HC d0 d1 d2
          go_wp2_with fail
          go_roundw
          case rel => exact ⟨a3, ln + 1, c3, ta2, tn + n1, tc2, mk1, nx + 1, i + 1, by omega, by omega, by omega, by omega, by omega, rfl, rfl, rfl, by go_num, by go_num, HNN⟩
          case measure => simp [intOf]; omega
      · have hnxI : ((nx : Int) < (len1 : Int)) = False := eq_false (by omega)
        by_cases hn0 : n1 = 0
        · have hmk := HPR.out.1 hn0
          have e0 : ((n1 : Int) == 0) = true := by rw [beq_iff_eq]; omega
          have hTL : L.take mk1 = L := by rw [hmk, ← HN.out.2.1, List.take_length]
          have HON : Hid (Calls Try.prog 38 #[.slice la ln lc, .string p] wq fun e w8 => ∃ an aa ac, e = .returned (.slice aa an ac) ∧ Hid (an = tn + n1 ∧ Below w.heap.size w w8 ∧ CIs w8 ta2 (told p L) ∧ CIs w8 aa (told p L) ∧ (told p L).length = tn + n1 ∧ ∀ c ∈ told p L, c.ws.length ≤ 12)) := Lib.hid (by
            obtain ⟨q1, q2, q3, q4, q5⟩ := HN.out
            rw [hTL] at q4 q5
            obtain ⟨l1, ⟨K, k1, k2, k3, k4⟩, l3⟩ := q5
            refine (only_any (cap := lc) k2.is.2 q2 (by omega) (fun c hc => by have := q1.wss c hc; omega) p).mono ?_
            rintro e w8 ⟨an, aa, ac, rfl, hO⟩
            obtain ⟨o1, o2, o3⟩ := hO.out
            have o2' : CmsOwn wq.heap.size w8 (.slice aa (told p L).length ac) (told p L) := by rw [← o1]; exact o2
            exact ⟨an, aa, ac, rfl, Lib.hid ⟨by omega, l1.trans (o3.mono l1.size), k3.is.2.below o3, o2'.is, q4.symm, told_ws q1.wss⟩⟩)
          have HN0 := Lib.hid hn0
          clear HN HPR HMM hn0
          subst hmk
          go_wp2_with fail
          refine HON.out.mono ?_
          rintro e w8 ⟨an, aa, ac, rfl, HO⟩
          obtain ⟨T, hT⟩ : ∃ T, T = told p L := ⟨_, rfl⟩
          rw [← hT] at HO
          obtain rfl : an = tn + n1 := HO.out.1
          obtain ⟨tt, htt⟩ : ∃ tt, tt = tn + n1 := ⟨_, rfl⟩
          rw [← htt] at HO htl ⊢
          have HTT := Lib.hid htt
          clear HON hTL hT htt hrun hb0 hb1 t0 t1
          go_wp2_with fail
          go_loopw [133] (fun jv wj => ∃ j : Nat, j ≤ tt ∧ jv = .int .i64 (j : Int) ∧ Hid (Below w8.heap.size w8 wj)) (fun jv _ => tt - (intOf jv).toNat)
          case atStart => exact ⟨0, Nat.zero_le _, rfl, Lib.hid (Below.refl _ _)⟩
          case round =>
            obtain ⟨j, hj, rfl, hsj⟩ := hrel
            by_cases hjl : j < tt
            · have hjI : (j : Int) < (tt : Int) := by omega
              have hjc : j < T.length := by rw [HO.out.2.2.2.2.1]; exact hjl
              obtain ⟨b1, o1, va, vc, e1, hlt1, m0, m1, m2, hw1⟩ := cis_get (HO.out.2.2.1.below hsj.out) (z := j) hjc
              obtain ⟨b2, o2, ua, uc, e2, hlt2, n0, n2, n3, hw2⟩ := cis_get (HO.out.2.2.2.1.below hsj.out) (z := j) hjc
              have hc12 := HO.out.2.2.2.2.2 _ (List.getElem_mem hjc)
              obtain ⟨c, hc⟩ : ∃ c, c = T[j] := ⟨_, rfl⟩
              rw [← hc] at m0 m1 m2 hw1 n0 n2 n3 hw2 hc12
              clear hc
              have HSM := Lib.hid (same_one (wc := vc) (vc := uc) c hw1 hw2 (by omega))
              obtain ⟨sq, at_, ws⟩ := c
              obtain ⟨wl, hwl⟩ : ∃ wl, wl = ws.length := ⟨_, rfl⟩
              simp only at m0 m1 m2 n0 n2 n3 HSM
              rw [← hwl] at m2 n3 HSM
              have HR : Hid (∀ w2, Below wr.drew.heap.size wr.drew w2 → Below w8.heap.size w8 w2) := Lib.hid fun w2 hb => hsj.out.trans (((Below.refl _ wr).drew.trans (show Below wr.heap.size wr.drew w2 from hb)).mono hsj.out.size)
              subst e1
              subst e2
              clear hw1 hw2 hc12 hwl hsj hjc
              go_wp2_with fail
              have HCALL := Lib.hid (HSM.out wr.drew (Below.refl _ _).drew)
              clear HSM
              refine wp_region_mid 8 _ (by kernel_rfl) (by kernel_rfl) rfl ?_
              change wpStill _ _ (World.drew _) (fun a' => MidCall _ _ _ _ _ a' (World.drew _)) _ _
              simp only [List.take_succ_cons, List.take_zero, List.drop_succ_cons, List.drop_zero]
              repeat still_step
              refine wpStill_nil ?_
              refine midCall_of (by rfl) _ _ ?_ HCALL.out ?_
              · go_simp
              rintro w9 hb9
              have HNN := Lib.hid (HR.out _ hb9)
              clear HR HCALL hb9
              repeat still_step
              refine wpStill_nil ?_
              go_wp2
              go_roundw
              case rel => exact ⟨j + 1, by omega, by go_num, HNN⟩
              case measure => simp [intOf]; omega
            · obtain rfl : j = tt := by omega
              have hjI : ((j : Int) < (j : Int)) = False := eq_false (by omega)
              have HF := Lib.hid (HO.out.2.1.trans (hsj.out.mono HO.out.2.1.size))
              clear hsj HO
              go_wp2
              first | exact ⟨rfl, HF.out⟩ | (go_ret; exact ⟨rfl, HF.out⟩)
        · have e0 : ((n1 : Int) == 0) = false := by rw [beq_eq_false_iff_ne]; omega
          have HNN : Hid (AlI w wq s (.slice la ln lc) (.slice ta2 (tn + n1) tc2) len mk1 nx (tn + n1) ln p) := Lib.hid (by
            obtain ⟨q1, q2, q3, q4, q5⟩ := HN.out
            exact ⟨_, _, q1, q2, q3, HMM.out.2.1, q4, q5⟩)
          clear HN HPR
          go_wp2_with fail
          go_roundw
          case rel => exact ⟨la, ln, lc, ta2, tn + n1, tc2, mk1, nx, i + 1, by omega, by omega, by omega, by omega, by omega, rfl, rfl, rfl, rfl, by go_num, HNN⟩
          case measure => simp [intOf]; omega
    · have hilI : ((i : Int) < (ln2 : Int)) = False := eq_false (by omega)
      have HP1 := Lib.hid (HPO.out wo s M L m 3 HAL.out.1 HAL.out.2.2.2.2.2.store (by rw [HAL.out.2.1]; omega) (by rw [HAL.out.2.1]; omega) (by omega) (by omega))
      clear HCX
      go_wp2_with fail
      refine HP1.out.mono ?_
      rintro e w5 ⟨n1, ob, od, mk1, rfl, HPL⟩
      clear HP1
      have hlo1 := HPL.out.lo
      have hn1k : (n1 : Int) ≤ (3 : Int) := by have := HPL.out.len; omega
      have hhi1 : mk1 ≤ ln := by have := HPL.out.hi; have := HAL.out.2.1; omega
      have hlI : ((mk1 : Int) < (m : Int)) = False := eq_false (by omega)
      have hkI : ((3 : Int) < (n1 : Int)) = False := eq_false (by omega)
      have hbA : Below w5.heap.size w5 (w5.alloc (.cells #[.slice ob n1 od, .int .i64 (mk1 : Int)] 58)) := (Below.refl _ w5).alloc (Nat.le_refl _) _
      obtain ⟨ta2, tc2, wq, hrun, HA, HG, HT⟩ := HAL.out.2.2.2.2.2.tell (by have := told_len p (L.take m); rw [List.length_take] at this; have := HAL.out.2.1; omega) HPL.out.low HPL.out.list HPL.out.num (by rw [HPL.out.num]; have := HPL.out.len; have := told_len p (L.drop m); rw [List.length_drop] at this; have := HAL.out.2.1; omega) _ hbA
      have HBX : Hid (Box wq w5.heap.size 58 #[.slice ob n1 od, .int .i64 (mk1 : Int)]) := Lib.hid (by
        have hb := Box.new w5 58 #[.slice ob n1 od, .int .i64 (mk1 : Int)]
        refine (HG.out.block _ hb.lt fun e => ?_).trans hb
        have h1 := HT.out _ e.symm
        have h2 := HPL.out.low.size
        omega)
      have HN : Hid (AlP M L ∧ L.length = ln ∧ ln = len + nx ∧ tn + n1 = (told p (L.take mk1)).length ∧ AlS w wq s M (.slice la ln lc) L (.slice ta2 (tn + n1) tc2) (told p (L.take mk1))) := Lib.hid (by
        obtain ⟨q1, q2, q3, q4, q5, q6⟩ := HAL.out
        refine ⟨q1, q2, q3, ?_, ?_⟩
        · rw [HPL.out.part, List.length_append, HPL.out.num, ← q5]
        · rw [HPL.out.part]
          exact HA.out)
      have HPR : Hid ((n1 = 0 → mk1 = ln) ∧ ((n1 : Int) ≤ (3 : Int))) := Lib.hid ⟨fun h => by
        have h1 := HPL.out.rest (by omega)
        rw [h1, HAL.out.2.1], hn1k⟩
      have htl : tn + n1 ≤ 40 := by
        have h1 := HN.out.2.2.2.1
        have h2 := told_len p (L.take mk1)
        rw [List.length_take] at h2
        have := HN.out.2.1
        omega
      have t0 := HBX.out.cell 0
      have t1 := HBX.out.cell 1
      have hb0 := (Box.new w5 58 #[.slice ob n1 od, .int .i64 (mk1 : Int)]).cell 0
      have hb1 := (Box.new w5 58 #[.slice ob n1 od, .int .i64 (mk1 : Int)]).cell 1
      simp only [List.getElem?_toArray, List.getElem?_cons_zero, List.getElem?_cons_succ] at t0 t1 hb0 hb1
      have HMM := Lib.hid (And.intro hlo1 (And.intro hhi1 hn1k))
      clear hbA hn1k HPL HAL HG HT HA
      by_cases hnx : nx < len1
      · have hnxI : (nx : Int) < (len1 : Int) := by omega
        obtain ⟨mb, mo, em, hmlt, hmv⟩ := HMO.out.2.1.resolve_left (fun e => by have := HMO.out.1; rw [e] at this; simp at this; omega)
        obtain ⟨ya, yc, k0, hyw⟩ := hmv nx (by have := HMO.out.1; omega)
        obtain ⟨hys, hyl9⟩ := HMO.out.2.2 _ (List.getElem_mem (show nx < mss.length by have := HMO.out.1; omega))
        obtain ⟨y, hy⟩ : ∃ y, y = mss[nx]'(by have := HMO.out.1; omega) := ⟨_, rfl⟩
        rw [← hy] at k0 hyw hys hyl9
        clear hy
        have hlowq : Below w.heap.size w wq := HN.out.2.2.2.2.low
        obtain ⟨yl, hyl⟩ : ∃ yl, yl = y.length := ⟨_, rfl⟩
        rw [← hyl] at k0
        have HK0 : Hid (∀ W', Below wq.heap.size wq W' → W'.cell? ⟨mb, mo + nx, none⟩ = some (.slice ya yl yc)) := Lib.hid fun W' hb => ((hlowq.trans (hb.mono hlowq.size)).cell (p := ⟨mb, mo + nx, none⟩) hmlt).trans k0
        have HLA : Hid (∀ W', Below wq.heap.size wq W' → Calls Try.prog 23 #[.pointer (some ⟨s, 0, none⟩)] W' fun e w2 => e = .returned (.int .i64 (ln : Int)) ∧ w2.cell? ⟨mb, mo + nx, none⟩ = some (.slice ya yl yc) ∧ mb < w2.heap.size ∧ Hid (Below W'.heap.size W' w2)) := Lib.hid fun W' hb => by
          obtain ⟨P, hP⟩ := HN.out.2.2.2.2.store
          refine (stLast_any (hP.below hb)).mono ?_
          rintro e w2 ⟨rfl, hb2⟩
          rw [HN.out.1.last, HN.out.2.1]
          exact ⟨rfl, HK0.out w2 (hb.trans (hb2.mono hb.size)), by have h1 := hlowq.size; have h2 := hb.size; have h3 := hb2.size; omega, Lib.hid hb2⟩
        have HSO : Hid (∀ W', Below wq.heap.size wq W' → Calls Try.prog 19 #[.slice ya yl yc] W' fun e w2 => ∃ xa xl xc, e = .returned (.slice xa xl xc) ∧ Hid (xl = (someW y).length ∧ RowK 81 3 wq.heap.size w2 (.slice xa xl xc) xl ((someW y).flatMap wrcells) ∧ Below W'.heap.size W' w2)) := Lib.hid fun W' hb => by
          refine (some_any (cap := yc) (hyw.below (hlowq.trans (hb.mono hlowq.size))) hyl.symm (by omega) hys).mono ?_
          rintro e w2 ⟨xa, xc, rfl, r1, r2⟩
          exact ⟨xa, _, xc, rfl, Lib.hid ⟨rfl, r1.keep fun q hq => ⟨rfl, Nat.le_trans hb.size (r1.lt q hq).1⟩, r2⟩⟩
        have HQ : Hid (Below wq.heap.size wq wq.drew) := Lib.hid (Below.refl _ _).drew
        have k1 := HK0.out wq (Below.refl _ _)
        have hmq : mb < wq.heap.size := by have := hlowq.size; omega
        have hlnw : IntKind.i64.wrap ((ln : Int) + 1) = (ln : Int) + 1 := by rw [IntKind.wrap_i64]; omega
        subst em
        have HCM : Hid (∀ (wG : World) cb, CmF wq wG cb ln y → ∃ xa xl xc, (wG.cell? ⟨cb, 0, none⟩ = some (.int .i64 ((ln : Int) + 1)) ∧ wG.cell? ⟨cb, 1, none⟩ = some (.int .i64 1048576) ∧ wG.cell? ⟨cb, 2, none⟩ = some (.slice xa xl xc)) ∧ Hid (Calls Try.prog 29 #[.pointer (some ⟨s, 0, none⟩), .agg #[.int .i64 ((ln : Int) + 1), .int .i64 1048576, .slice xa xl xc]] wG fun e w7 =>
            e = .returned (.int .i64 0) ∧ (w7.cell? ⟨cb, 0, none⟩ = some (.int .i64 ((ln : Int) + 1)) ∧ w7.cell? ⟨cb, 1, none⟩ = some (.int .i64 1048576) ∧ w7.cell? ⟨cb, 2, none⟩ = some (.slice xa xl xc)) ∧ ∃ a3 c3 W3, (∀ ty, (Builtin.append_ #[27, 27] ty #[.slice la ln lc, .slice (some ⟨w7.heap.size, 0, none⟩) 1 1]).run Try.prog (w7.alloc (.cells #[.int .i64 ((ln : Int) + 1), .int .i64 1048576, .slice xa xl xc] 43)) = .ok (.slice a3 (ln + 1) c3) W3) ∧ Hid (AlI w W3 s (.slice a3 (ln + 1) c3) (.slice ta2 (tn + n1) tc2) len mk1 (nx + 1) (tn + n1) (ln + 1) p))) := Lib.hid fun wG cb ⟨xa, xl, xc, h1, h0, hbx0, h2, h3⟩ => by
          subst h2
          refine ⟨xa, _, xc, ⟨hbx0.cell 0, hbx0.cell 1, hbx0.cell 2⟩, Lib.hid ?_⟩
          obtain ⟨q1, q2, q3, q4, q5⟩ := HN.out
          have hsy := someW_len y
          have hL40 := HMM.out.2.1
          have hfit := q1.fits (by omega) y
          rw [q2] at hfit
          refine (q5.commit q1.sg (by omega) hfit h1 h3 _ (Below.refl _ _)).mono ?_
          rintro e w7 ⟨rfl, hX⟩
          obtain ⟨K, ⟨r1, r2, r3, r4, r5⟩, r6, r7⟩ := hX.out
          have hbx : Box w7 cb 43 #[.int .i64 ((ln : Int) + 1), .int .i64 1048576, .slice xa (someW y).length xc] := (r7 cb h0 hbx0.lt).trans hbx0
          obtain ⟨a3, c3, W3, s1, s2⟩ := AlS.list (sq := (ln : Int) + 1) (at_ := 1048576) q5.ne r1.low r2 r3 r4 r5 (by omega) r6
          refine ⟨rfl, ⟨hbx.cell 0, hbx.cell 1, hbx.cell 2⟩, a3, c3, W3, s1, Lib.hid ?_⟩
          have hnx := q1.next (by omega) y
          rw [q2] at hnx
          have htk : (L ++ [(⟨(ln : Int) + 1, 1048576, someW y⟩ : CmM)]).take mk1 = L.take mk1 := List.take_append_of_le_length (by have := HMM.out.2.1; omega)
          refine ⟨_, _, hnx, by rw [List.length_append, List.length_singleton, q2], by omega, by have := HMM.out.2.1; omega, by rw [htk]; exact q4, ?_⟩
          rw [htk]
          exact s2.out
        clear hmv k0 hyw hys hyl9 hlowq hyl
        go_upto_region 21 with fail
        clear hrun hb0 hb1 t0 t1
        go_cut [18] (fun v wx => ∃ cb, v = .pointer (some ⟨cb, 0, none⟩) ∧ Hid (CmF wq wx cb ln y))
        case first =>
          clear HCM HN HMM HPR HBX
          go_region_law (first
            | (go_simp; go_at_call 23; refine (HLA.out _ (by first | exact HQ.out | exact HQ.out.alloc HQ.out.size _)).mono ?_; rintro e wL ⟨rfl, k1, hml, hbL⟩; (first | (have HRW := Lib.hid (And.intro HRW.out.1 (HRW.out.2.below hbL.out))) | (have HRW := Lib.hid (And.intro HRW.out.1 (HRW.out.2.below (((Below.refl _ _).alloc (Nat.le_refl _) _).trans (hbL.out.mono (by simp)))))) | skip); (first | (have HBX := Lib.hid (bx_after HQ.out hbL.out)) | (have HBX := Lib.hid (bx_keep HBX.out hbL.out)) | skip); (first | (have HQ := Lib.hid (HQ.out.trans (Below.mono hbL.out HQ.out.size))) | (have HQ := Lib.hid ((HQ.out.alloc HQ.out.size _).trans (Below.mono hbL.out (HQ.out.alloc HQ.out.size _).size)))); (first | (have b0 := HBX.out.box.cell 0; have b1 := HBX.out.box.cell 1; have b2 := HBX.out.box.cell 2; have f0 := HBX.out.box.free 0; have f1 := HBX.out.box.free 1; have f2 := HBX.out.box.free 2; simp only [List.getElem?_toArray, List.getElem?_cons_zero, List.getElem?_cons_succ] at b0 b1 b2; ((try change wL.cell? ⟨wq.heap.size, 0, none⟩ = _ at b0)); ((try change wL.cell? ⟨wq.heap.size, 1, none⟩ = _ at b1)); ((try change wL.cell? ⟨wq.heap.size, 2, none⟩ = _ at b2)); ((try change wL.frozen? ⟨wq.heap.size, 0, none⟩ = _ at f0)); ((try change wL.frozen? ⟨wq.heap.size, 1, none⟩ = _ at f1)); ((try change wL.frozen? ⟨wq.heap.size, 2, none⟩ = _ at f2))) | skip))
            | (go_simp; go_at_call 19; refine (HSO.out _ (by first | exact HQ.out | exact HQ.out.alloc HQ.out.size _)).mono ?_; rintro e wS ⟨xa, xl, xc, rfl, hXS⟩; (first | (have HBX := Lib.hid (bx_after HQ.out hXS.out.2.2)) | (have HBX := Lib.hid (bx_keep HBX.out hXS.out.2.2)) | skip); (first | (have HQ := Lib.hid (HQ.out.trans (Below.mono hXS.out.2.2 HQ.out.size))) | (have HQ := Lib.hid ((HQ.out.alloc HQ.out.size _).trans (Below.mono hXS.out.2.2 (HQ.out.alloc HQ.out.size _).size)))); (first | (have b0 := HBX.out.box.cell 0; have b1 := HBX.out.box.cell 1; have b2 := HBX.out.box.cell 2; have f0 := HBX.out.box.free 0; have f1 := HBX.out.box.free 1; have f2 := HBX.out.box.free 2; simp only [List.getElem?_toArray, List.getElem?_cons_zero, List.getElem?_cons_succ] at b0 b1 b2; ((try change wS.cell? ⟨wq.heap.size, 0, none⟩ = _ at b0)); ((try change wS.cell? ⟨wq.heap.size, 1, none⟩ = _ at b1)); ((try change wS.cell? ⟨wq.heap.size, 2, none⟩ = _ at b2)); ((try change wS.frozen? ⟨wq.heap.size, 0, none⟩ = _ at f0)); ((try change wS.frozen? ⟨wq.heap.size, 1, none⟩ = _ at f1)); ((try change wS.frozen? ⟨wq.heap.size, 2, none⟩ = _ at f2))) | skip); have HRW := Lib.hid (And.intro hXS.out.1 hXS.out.2.1)))
          all_goals
            go_wp2_with fail
            go_meet
            first
              | exact ⟨_, rfl, Lib.hid (fin_new HQ.out HRW.out.1 HRW.out.2)⟩
              | exact ⟨_, rfl, Lib.hid (fin_old HQ.out HRW.out.1 HRW.out.2 HBX.out)⟩
        case rest =>
          obtain ⟨cb, rfl, hX⟩ := hcut
          obtain ⟨xa, xl, xc, ⟨d0, d1, d2⟩, HC⟩ := HCM.out _ _ hX.out
          clear HCM hX HLA HSO HK0 HQ k1 HN
          go_wp2_with fail
          refine HC.out.mono ?_
          rintro e w7 ⟨rfl, ⟨c0, c1, c2⟩, a3, c3, W3, hrun3, HNN⟩
          clear HC d0 d1 d2
          go_wp2_with fail
          go_roundw
          case rel => exact ⟨a3, ln + 1, c3, ta2, tn + n1, tc2, mk1, nx + 1, i + 1, by omega, by omega, by omega, by omega, by omega, rfl, rfl, rfl, by go_num, by go_num, HNN⟩
          case measure => simp [intOf]; omega
      · have hnxI : ((nx : Int) < (len1 : Int)) = False := eq_false (by omega)
        by_cases hn0 : n1 = 0
        · have hmk := HPR.out.1 hn0
          have e0 : ((n1 : Int) == 0) = true := by rw [beq_iff_eq]; omega
          have hTL : L.take mk1 = L := by rw [hmk, ← HN.out.2.1, List.take_length]
          have HON : Hid (Calls Try.prog 38 #[.slice la ln lc, .string p] wq fun e w8 => ∃ an aa ac, e = .returned (.slice aa an ac) ∧ Hid (an = tn + n1 ∧ Below w.heap.size w w8 ∧ CIs w8 ta2 (told p L) ∧ CIs w8 aa (told p L) ∧ (told p L).length = tn + n1 ∧ ∀ c ∈ told p L, c.ws.length ≤ 12)) := Lib.hid (by
            obtain ⟨q1, q2, q3, q4, q5⟩ := HN.out
            rw [hTL] at q4 q5
            obtain ⟨l1, ⟨K, k1, k2, k3, k4⟩, l3⟩ := q5
            refine (only_any (cap := lc) k2.is.2 q2 (by omega) (fun c hc => by have := q1.wss c hc; omega) p).mono ?_
            rintro e w8 ⟨an, aa, ac, rfl, hO⟩
            obtain ⟨o1, o2, o3⟩ := hO.out
            have o2' : CmsOwn wq.heap.size w8 (.slice aa (told p L).length ac) (told p L) := by rw [← o1]; exact o2
            exact ⟨an, aa, ac, rfl, Lib.hid ⟨by omega, l1.trans (o3.mono l1.size), k3.is.2.below o3, o2'.is, q4.symm, told_ws q1.wss⟩⟩)
          have HN0 := Lib.hid hn0
          clear HN HPR HMM hn0
          subst hmk
          go_wp2_with fail
          refine HON.out.mono ?_
          rintro e w8 ⟨an, aa, ac, rfl, HO⟩
          obtain ⟨T, hT⟩ : ∃ T, T = told p L := ⟨_, rfl⟩
          rw [← hT] at HO
          obtain rfl : an = tn + n1 := HO.out.1
          obtain ⟨tt, htt⟩ : ∃ tt, tt = tn + n1 := ⟨_, rfl⟩
          rw [← htt] at HO htl ⊢
          have HTT := Lib.hid htt
          clear HON hTL hT htt hrun hb0 hb1 t0 t1
          go_wp2_with fail
          go_loopw [133] (fun jv wj => ∃ j : Nat, j ≤ tt ∧ jv = .int .i64 (j : Int) ∧ Hid (Below w8.heap.size w8 wj)) (fun jv _ => tt - (intOf jv).toNat)
          case atStart => exact ⟨0, Nat.zero_le _, rfl, Lib.hid (Below.refl _ _)⟩
          case round =>
            obtain ⟨j, hj, rfl, hsj⟩ := hrel
            by_cases hjl : j < tt
            · have hjI : (j : Int) < (tt : Int) := by omega
              have hjc : j < T.length := by rw [HO.out.2.2.2.2.1]; exact hjl
              obtain ⟨b1, o1, va, vc, e1, hlt1, m0, m1, m2, hw1⟩ := cis_get (HO.out.2.2.1.below hsj.out) (z := j) hjc
              obtain ⟨b2, o2, ua, uc, e2, hlt2, n0, n2, n3, hw2⟩ := cis_get (HO.out.2.2.2.1.below hsj.out) (z := j) hjc
              have hc12 := HO.out.2.2.2.2.2 _ (List.getElem_mem hjc)
              obtain ⟨c, hc⟩ : ∃ c, c = T[j] := ⟨_, rfl⟩
              rw [← hc] at m0 m1 m2 hw1 n0 n2 n3 hw2 hc12
              clear hc
              have HSM := Lib.hid (same_one (wc := vc) (vc := uc) c hw1 hw2 (by omega))
              obtain ⟨sq, at_, ws⟩ := c
              obtain ⟨wl, hwl⟩ : ∃ wl, wl = ws.length := ⟨_, rfl⟩
              simp only at m0 m1 m2 n0 n2 n3 HSM
              rw [← hwl] at m2 n3 HSM
              have HR : Hid (∀ w2, Below wr.drew.heap.size wr.drew w2 → Below w8.heap.size w8 w2) := Lib.hid fun w2 hb => hsj.out.trans (((Below.refl _ wr).drew.trans (show Below wr.heap.size wr.drew w2 from hb)).mono hsj.out.size)
              subst e1
              subst e2
              clear hw1 hw2 hc12 hwl hsj hjc
              go_wp2_with fail
              have HCALL := Lib.hid (HSM.out wr.drew (Below.refl _ _).drew)
              clear HSM
              refine wp_region_mid 8 _ (by kernel_rfl) (by kernel_rfl) rfl ?_
              change wpStill _ _ (World.drew _) (fun a' => MidCall _ _ _ _ _ a' (World.drew _)) _ _
              simp only [List.take_succ_cons, List.take_zero, List.drop_succ_cons, List.drop_zero]
              repeat still_step
              refine wpStill_nil ?_
              refine midCall_of (by rfl) _ _ ?_ HCALL.out ?_
              · go_simp
              rintro w9 hb9
              have HNN := Lib.hid (HR.out _ hb9)
              clear HR HCALL hb9
              repeat still_step
              refine wpStill_nil ?_
              go_wp2
              go_roundw
              case rel => exact ⟨j + 1, by omega, by go_num, HNN⟩
              case measure => simp [intOf]; omega
            · obtain rfl : j = tt := by omega
              have hjI : ((j : Int) < (j : Int)) = False := eq_false (by omega)
              have HF := Lib.hid (HO.out.2.1.trans (hsj.out.mono HO.out.2.1.size))
              clear hsj HO
              go_wp2
              first | exact ⟨rfl, HF.out⟩ | (go_ret; exact ⟨rfl, HF.out⟩)
        · have e0 : ((n1 : Int) == 0) = false := by rw [beq_eq_false_iff_ne]; omega
          have HNN : Hid (AlI w wq s (.slice la ln lc) (.slice ta2 (tn + n1) tc2) len mk1 nx (tn + n1) ln p) := Lib.hid (by
            obtain ⟨q1, q2, q3, q4, q5⟩ := HN.out
            exact ⟨_, _, q1, q2, q3, HMM.out.2.1, q4, q5⟩)
          clear HN HPR
          go_wp2_with fail
          go_roundw
          case rel => exact ⟨la, ln, lc, ta2, tn + n1, tc2, mk1, nx, i + 1, by omega, by omega, by omega, by omega, by omega, rfl, rfl, rfl, rfl, by go_num, HNN⟩
          case measure => simp [intOf]; omega

theorem walk {w : World} (a : Option Addr) (len cap : Nat) (hW : ∃ wss, WwsCame w a len wss) (a1 : Option Addr) (len1 cap1 : Nat) (hM : ∃ wss, WwsCame w a1 len1 wss) (p : ByteArray) (wp : p.size ≤ maxLen) (a2 : Option Addr) (ln2 cap2 : Nat) (zs : List Int) (hrow : IsRow .i64 w a2 ln2 cap2 zs) :
    Calls Try.prog 8 #[.slice a len cap, .slice a1 len1 cap1, .string p, .slice a2 ln2 cap2] w fun e W' => e = .returned (.bool true) ∧ Below w.heap.size w W' := by
  by_cases h1 : 20 < len
  · exact walk_out1 a len cap a1 len1 cap1 p a2 ln2 cap2 h1
  by_cases h2 : 20 < len1
  · exact walk_out2 a len cap a1 len1 cap1 p a2 ln2 cap2 ⟨by omega, h2⟩
  by_cases h3 : 60 < p.size
  · exact walk_out3 a len cap a1 len1 cap1 p a2 ln2 cap2 ⟨by omega, by omega, h3⟩
  by_cases h4 : 30 < ln2
  · exact walk_out4 a len cap a1 len1 cap1 p a2 ln2 cap2 ⟨by omega, by omega, by omega, h4⟩
  obtain ⟨wss, hW⟩ := hW
  obtain ⟨mss, hM⟩ := hM
  refine walk_main a len cap hW (by omega) a1 len1 cap1 hM (by omega) p (by omega) a2 ln2 cap2 (by omega) zs fun i hi => ?_
  rcases hrow with ⟨_, h1, _⟩ | ⟨x, e, h1, h2, h3, h4, _⟩
  · omega
  · exact ⟨x, e, h4 i (by omega)⟩

end Go.Proofs.Ytookplnegfheeaa.watchAll
