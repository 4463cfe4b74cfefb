/-
  WatchSteps: its walk.
-/
import Derived.Test.YtookplnegfheeaaWtQ
import Derived.Deep.RegionLaw
namespace Go.Proofs.Ytookplnegfheeaa.watchSteps
open Go.RowKit Go.Proofs.Ytookplnegfheeaa.tC Go.Proofs.Ytookplnegfheeaa.sT Go.Proofs.Ytookplnegfheeaa.wT Go.Proofs.Ytookplnegfheeaa.storeFrees

set_option linter.unusedVariables false
set_option linter.unusedSimpArgs false

theorem and_15 (n : Int) : bits .and .i64 n 15 = n % 16 := by
  have hc : (BitVec.ofInt 64 15).toNat = 2 ^ 4 - 1 := by decide
  have key : (BitVec.ofInt 64 n &&& BitVec.ofInt 64 15).toNat = (n % ((2 ^ 64 : Nat) : Int)).toNat % 2 ^ 4 := by
    rw [BitVec.toNat_and, BitVec.toNat_ofInt, hc, Nat.and_two_pow_sub_one_eq_mod]
  show IntKind.i64.wrap ((BitVec.ofInt 64 n &&& BitVec.ofInt 64 15).toNat : Nat) = n % 16
  rw [key, IntKind.wrap_i64]
  omega

theorem walk_out1 {w : World} (a : Option Addr) (len cap : Nat) (p : ByteArray) (a2 : Option Addr) (ln cap2 : Nat) (h : 30 < len) :
    Calls Try.prog 10 #[.slice a len cap, .string p, .slice a2 ln cap2] w fun e W' => e = .returned (.bool true) ∧ Below w.heap.size w W' := by
  have hI : (30 : Int) < (len : Int) := by omega
  clear h
  go_enter Try.func10, Try.ntmps10
  go_wp2_with fail
  refine (head17_any _).mono ?_
  rintro e w1 ⟨rfl, hb1⟩
  have HB1 := Lib.hid hb1
  clear hb1
  go_wp2
  first | exact ⟨rfl, HB1.out⟩ | (go_ret; exact ⟨rfl, HB1.out⟩)

theorem walk_out2 {w : World} (a : Option Addr) (len cap : Nat) (p : ByteArray) (a2 : Option Addr) (ln cap2 : Nat) (h : len ≤ 30 ∧ 60 < p.size) :
    Calls Try.prog 10 #[.slice a len cap, .string p, .slice a2 ln cap2] w fun e W' => e = .returned (.bool true) ∧ Below w.heap.size w W' := by
  have hI : ((30 : Int) < (len : Int)) = False := eq_false (by omega)
  have hJ : (60 : Int) < (p.size : Int) := by omega
  clear h
  go_enter Try.func10, Try.ntmps10
  go_wp2_with fail
  refine (head17_any _).mono ?_
  rintro e w1 ⟨rfl, hb1⟩
  have HB1 := Lib.hid hb1
  clear hb1
  go_wp2
  first | exact ⟨rfl, HB1.out⟩ | (go_ret; exact ⟨rfl, HB1.out⟩)

theorem walk_out3 {w : World} (a : Option Addr) (len cap : Nat) (p : ByteArray) (a2 : Option Addr) (ln cap2 : Nat) (h : len ≤ 30 ∧ p.size ≤ 60 ∧ 40 < ln) :
    Calls Try.prog 10 #[.slice a len cap, .string p, .slice a2 ln cap2] w fun e W' => e = .returned (.bool true) ∧ Below w.heap.size w W' := by
  have hI : ((30 : Int) < (len : Int)) = False := eq_false (by omega)
  have hJ : ((60 : Int) < (p.size : Int)) = False := eq_false (by omega)
  have hL : (40 : Int) < (ln : Int) := by omega
  clear h
  go_enter Try.func10, Try.ntmps10
  go_wp2_with fail
  refine (head17_any _).mono ?_
  rintro e w1 ⟨rfl, hb1⟩
  have HB1 := Lib.hid hb1
  clear hb1
  go_wp2
  first | exact ⟨rfl, HB1.out⟩ | (go_ret; exact ⟨rfl, HB1.out⟩)


/-- what stays while it is polled -/
structure StS (w wr : World) (s : Nat) (M : StM) (cs : List CmM) (bb : Nat) (oa : Option Addr) (n oc : Nat) (p : ByteArray) : Prop where
  low : Below w.heap.size w wr
  store : ∃ P, StoreAt P wr s M
  box : Box wr bb 58 #[.slice oa n oc, .int .i64 (cs.length : Int)]
  list : CIs wr oa (told p cs)
theorem StS.below {w wr w' : World} {s : Nat} {M : StM} {cs : List CmM} {bb : Nat} {oa : Option Addr} {n oc : Nat} {p : ByteArray} (h : StS w wr s M cs bb oa n oc p) (hb : Below wr.heap.size wr w') : StS w w' s M cs bb oa n oc p := by
  obtain ⟨h1, ⟨P, h2⟩, h3, h4⟩ := h
  exact ⟨h1.trans (hb.mono h1.size), ⟨P, h2.below hb⟩, (hb.block _ h3.lt).trans h3, h4.below hb⟩

set_option maxHeartbeats 4000000 in
set_option maxRecDepth 100000 in
theorem walk_main {w : World} (a : Option Addr) (len cap : Nat) {wss : List (List Wr)} (hW : WwsCame w a len wss) (hle : len ≤ 30) (p : ByteArray) (hp : p.size ≤ 60) (a2 : Option Addr) (ln cap2 : Nat) (hln : ln ≤ 40) (zs : List Int) (hcx : ∀ i, i < ln → ∃ x, a2 = some x ∧ w.cell? (x.add i) = some (.int .i64 (zs.getD i 0))) :
    Calls Try.prog 10 #[.slice a len cap, .string p, .slice a2 ln cap2] w fun e W' => e = .returned (.bool true) ∧ Below w.heap.size w W' := by
  have hlen := hW.1
  have hI30 : ((30 : Int) < (len : Int)) = False := eq_false (by omega)
  have hI60 : ((60 : Int) < (p.size : Int)) = False := eq_false (by omega)
  have hI40 : ((40 : Int) < (ln : Int)) = False := eq_false (by omega)
  have HMD := Lib.hid (fun (w1 : World) (hb : Below w.heap.size w w1) => made17_any cap hW hle w1 hb 0 (Nat.zero_le _))
  have hcl : (listC 1 wss).length = len := by rw [listC_len, hlen]
  obtain ⟨hsg, hlow, hcms⟩ := made_sg wss (by omega) 0 (by omega)
  have hsq := seqs_list wss
  have h12 := listC_12 1 wss
  obtain ⟨M, hM⟩ : ∃ M, M = (madeM 0 [] (listC 1 wss)).vacuum 0 := ⟨_, rfl⟩
  obtain ⟨cs, hcs⟩ : ∃ cs, cs = listC 1 wss := ⟨_, rfl⟩
  rw [← hM] at HMD hsg hlow hcms
  rw [← hcs] at HMD hcl hcms hsq h12
  rw [hlen] at hsg
  rw [List.drop_zero] at hcms
  have hAL12 : ∀ c ∈ told p cs, c.ws.length ≤ 12 := fun c hc => told_ws h12 c hc
  have hALl : (told p cs).length ≤ len := by rw [← hcl]; exact told_len p cs
  have HPO : Hid (∀ w2 s m (most : Int), (∃ P, StoreAt P w2 s M) → m ≤ len → 1 ≤ most → most ≤ 100 → Calls Try.prog 37 #[.pointer (some ⟨s, 0, none⟩), .int .i64 ((m : Nat) : Int), .string p, .int .i64 most] w2 fun e W' => ∃ n oa oc mk, e = .returned (.tuple #[.agg #[.slice oa n oc, .int .i64 ((mk : Nat) : Int)], .int .i64 0]) ∧ Hid (PlO w2 W' cs m p most n oa oc mk)) := Lib.hid fun w2 s m most hS hm h1 h2 => by
    obtain ⟨P, hP⟩ := hS
    exact poll_gen hP hsg (by omega) hsq (by rw [hlow]; omega) (by rw [hcms, hlow, List.drop_zero]) m (by omega) (by rw [hcl]; omega) p (by omega) most (by omega) (by omega)
  have HCX : Hid (∀ W', Below w.heap.size w W' → ∀ i, i < ln → ∃ x, a2 = some x ∧ W'.cell? (x.add i) = some (.int .i64 (zs.getD i 0))) := Lib.hid fun W' hb i hi => by
    obtain ⟨x, e, hc⟩ := hcx i hi
    exact ⟨x, e, (hb.cell (p := x.add i) (World.block_lt_of_cell? w _ hc)).trans hc⟩
  have HCL := Lib.hid (And.intro hcl (And.intro hAL12 hALl))
  clear hW hcl hsg hlow hcms hsq h12 hM hcs hlen hp hcx hAL12 hALl
  go_enter Try.func10, Try.ntmps10
  go_wp2_with fail
  refine (head17_any _).mono ?_
  rintro e w1 ⟨rfl, hb1⟩
  have HMD1 := Lib.hid (And.intro hb1 (HMD.out w1 hb1))
  clear hb1 HMD
  go_wp2_with fail
  refine HMD1.out.2.mono ?_
  rintro e w2 ⟨s, la, lc, rfl, HS⟩
  have HB2 := Lib.hid (And.intro (HMD1.out.1.trans (HS.out.1.mono HMD1.out.1.size)) HS.out.store)
  clear HMD1 HS
  go_wp2_with fail
  refine (HPO.out w2 s 0 100 HB2.out.2 (Nat.zero_le _) (by omega) (by omega)).mono ?_
  rintro e w3 ⟨n0, oa, oc, mk, rfl, HPL⟩
  have hmk : mk = len := by
    have h1 := HPL.out.len
    rw [List.drop_zero] at h1
    have h2 := HCL.out.2.2
    rw [HPL.out.rest (by omega), HCL.out.1]
  have hn0 : n0 = (told p cs).length := by
    have h1 := HPL.out.len
    rw [List.drop_zero] at h1
    have h2 := HCL.out.2.2
    omega
  have H4 : Hid (StS w (w3.alloc (.cells #[.slice oa n0 oc, .int .i64 (mk : Int)] 58)) s M cs w3.heap.size oa n0 oc p) := Lib.hid (by
    have h2 : Below w3.heap.size w3 (w3.alloc (.cells #[.slice oa n0 oc, .int .i64 (mk : Int)] 58)) := (Below.refl _ w3).alloc (Nat.le_refl _) _
    have h1 : Below w.heap.size w w3 := HB2.out.1.trans (HPL.out.low.mono HB2.out.1.size)
    have h3 := HPL.out.list
    rw [List.drop_zero, hn0, List.take_length] at h3
    refine ⟨h1.trans (h2.mono h1.size), ?_, ?_, h3.is.below h2⟩
    · obtain ⟨P, hP⟩ := HB2.out.2
      exact ⟨P, (hP.below HPL.out.low).below h2⟩
    · rw [HCL.out.1, ← hmk]
      exact Box.new w3 58 _)
  obtain ⟨w4, hw4⟩ : ∃ w4, w4 = (w3.alloc (.cells #[.slice oa n0 oc, .int .i64 (mk : Int)] 58)) := ⟨_, rfl⟩
  obtain ⟨bb, hbb⟩ : ∃ bb, bb = w3.heap.size := ⟨_, rfl⟩
  rw [← hw4, ← hbb] at H4
  have HW4 := Lib.hid hw4
  have HBB := Lib.hid hbb
  have HN0 := Lib.hid hn0
  have hn30 : n0 ≤ 30 := by have := HCL.out.2.2; omega
  have h00 : Hid ((told p (cs.take 0)).length = 0) := Lib.hid rfl
  subst hmk
  clear hw4 hbb hn0 HPL HB2
  go_wp2_with fail
  rw [← HW4.out, ← HBB.out]
  go_loopw [11, 12, 13] (fun mv nv iv wr => ∃ m i n : Nat, m ≤ mk ∧ i ≤ m ∧ n ≤ n0 ∧ mv = .int .i64 (m : Int) ∧ nv = .int .i64 (n : Int) ∧ iv = .int .i64 (i : Int) ∧ Hid (n = (told p (cs.take m)).length ∧ StS w wr s M cs bb oa n0 oc p)) (fun mv _ _ _ => mk - (intOf mv).toNat)
  case atStart => exact ⟨0, 0, 0, Nat.zero_le _, Nat.le_refl _, Nat.zero_le _, rfl, rfl, rfl, Lib.hid ⟨h00.out.symm, H4.out⟩⟩
  case round =>
    obtain ⟨m, i, n, hm, him, hnn, rfl, rfl, rfl, hst⟩ := hrel
    clear H4 h00
    obtain ⟨wo, hwo⟩ : ∃ wo, wo = wr := ⟨_, rfl⟩
    subst hwo
    have hi60 : (i : Int) < 60 := by omega
    by_cases hml : m < mk
    · have hmlI : (m : Int) < (mk : Int) := by omega
      by_cases hil : i < ln
      · have hilI : (i : Int) < (ln : Int) := by omega
        obtain ⟨x, ex, hx⟩ := HCX.out wo hst.out.2.low i hil
        obtain ⟨zv, hzv⟩ : ∃ zv, zv = zs.getD i 0 := ⟨_, rfl⟩
        rw [← hzv] at hx
        have hand := and_15 zv
        obtain ⟨d, hd, hdd⟩ : ∃ d : Nat, d < 16 ∧ zv % 16 = (d : Int) := ⟨(zv % 16).toNat, by omega, by omega⟩
        rw [hdd] at hand
        obtain ⟨kk, hkk⟩ : ∃ kk : Int, kk = 1 + (d : Int) := ⟨_, rfl⟩
        have HP1 : Hid (Calls Try.prog 37 #[.pointer (some ⟨s, 0, none⟩), .int .i64 ((m : Nat) : Int), .string p, .int .i64 kk] wo fun e W' => ∃ n oa oc mk, e = .returned (.tuple #[.agg #[.slice oa n oc, .int .i64 ((mk : Nat) : Int)], .int .i64 0]) ∧ Hid (PlO wo W' cs m p kk n oa oc mk)) := Lib.hid (HPO.out wo s m kk hst.out.2.store (by omega) (by omega) (by omega))
        have HKK : Hid (1 + (d : Int) = kk) := Lib.hid hkk.symm
        subst ex
        clear hzv hdd hkk
        clear HCX
        go_wp2_with fail
        try rw [HKK.out]
        refine HP1.out.mono ?_
        rintro e w5 ⟨n1, ob, od, mk1, rfl, HPL⟩
        clear HP1
        have hlo1 := HPL.out.lo
        have hhi1 : mk1 ≤ mk := by have := HPL.out.hi; rw [HCL.out.1] at this; exact this
        have hup1 : m < mk1 := HPL.out.up (by rw [HCL.out.1]; exact hml)
        have hn1 : n + n1 ≤ n0 := by
          have h1 := congrArg List.length HPL.out.part
          rw [List.length_append, HPL.out.num, ← hst.out.1] at h1
          have h2 : (told p (cs.take mk1)).length ≤ (told p cs).length := by
            rw [told_split p cs mk1, List.length_append]
            omega
          rw [← HN0.out] at h2
          omega
        have H6 : Hid (StS w (w5.alloc (.cells #[.slice ob n1 od, .int .i64 (mk1 : Int)] 58)) s M cs bb oa n0 oc p ∧ CIs (w5.alloc (.cells #[.slice ob n1 od, .int .i64 (mk1 : Int)] 58)) ob ((told p (cs.drop m)).take n1) ∧ Box (w5.alloc (.cells #[.slice ob n1 od, .int .i64 (mk1 : Int)] 58)) w5.heap.size 58 #[.slice ob n1 od, .int .i64 (mk1 : Int)]) := Lib.hid (by
          have h2 : Below w5.heap.size w5 (w5.alloc (.cells #[.slice ob n1 od, .int .i64 (mk1 : Int)] 58)) := (Below.refl _ w5).alloc (Nat.le_refl _) _
          have h3 : CmsOwn wo.heap.size w5 (.slice ob ((told p (cs.drop m)).take n1).length od) ((told p (cs.drop m)).take n1) := by rw [HPL.out.num]; exact HPL.out.list
          exact ⟨(hst.out.2.below HPL.out.low).below h2, h3.is.below h2, Box.new w5 58 _⟩)
        obtain ⟨w6, hw6⟩ : ∃ w6, w6 = (w5.alloc (.cells #[.slice ob n1 od, .int .i64 (mk1 : Int)] 58)) := ⟨_, rfl⟩
        obtain ⟨b6, hb6⟩ : ∃ b6, b6 = w5.heap.size := ⟨_, rfl⟩
        rw [← hw6, ← hb6] at H6
        have HNX : Hid (n + n1 = (told p (cs.take mk1)).length ∧ ∀ j, j < n1 → ∃ h1 : j < ((told p (cs.drop m)).take n1).length, ∃ h2 : n + j < (told p cs).length, ((told p (cs.drop m)).take n1)[j] = (told p cs)[n + j]) := Lib.hid (by
          refine ⟨by rw [HPL.out.part, List.length_append, HPL.out.num, ← hst.out.1], fun j hj => ?_⟩
          have hA : j < ((told p (cs.drop m)).take n1).length := by rw [HPL.out.num]; exact hj
          have hB : n + j < (told p cs).length := by rw [← HN0.out]; omega
          refine ⟨hA, hB, ?_⟩
          have h1 := told_split p cs m
          have h2 : (told p cs)[n + j]? = (told p (cs.drop m))[j]? := by
            rw [h1, List.getElem?_append_right (by rw [← hst.out.1]; omega), ← hst.out.1, Nat.add_sub_cancel_left]
          have h3 : ((told p (cs.drop m)).take n1)[j]? = (told p (cs.drop m))[j]? := by rw [List.getElem?_take, if_pos hj]
          rw [List.getElem?_eq_getElem hB] at h2
          rw [List.getElem?_eq_getElem hA, ← h2] at h3
          exact Option.some.inj h3)
        have HW6 := Lib.hid hw6
        have HB6 := Lib.hid hb6
        have hlI : ((mk1 : Int) < (m : Int)) = False := eq_false (by omega)
        clear hst HPL hw6 hb6
        go_wp2_with fail
        rw [← HW6.out, ← HB6.out]
        go_loopw [93, 12] (fun jv nv wj => ∃ j : Nat, j ≤ n1 ∧ jv = .int .i64 (j : Int) ∧ nv = .int .i64 ((n + j : Nat) : Int) ∧ Hid (Below w6.heap.size w6 wj)) (fun jv _ _ => n1 - (intOf jv).toNat)
        case atStart => exact ⟨0, Nat.zero_le _, rfl, rfl, Lib.hid (Below.refl _ _)⟩
        case round =>
          obtain ⟨j, hj, rfl, rfl, hsj⟩ := hrel
          have hS := H6.out.1.below hsj.out
          by_cases hjl : j < n1
          · have hjI : (j : Int) < (n1 : Int) := by omega
            have hjn : ((n0 : Int) ≤ ((n + j : Nat) : Int)) = False := eq_false (by omega)
            have hjn2 : ((n + j : Nat) : Int) < (n0 : Int) := by omega
            obtain ⟨hA, hB, hE⟩ := HNX.out.2 j hjl
            obtain ⟨b1, o1, wa, wc, e1, hlt1, m0, m1, m2, hw1⟩ := cis_get (H6.out.2.1.below hsj.out) (z := j) hA
            obtain ⟨b2, o2, va, vc, e2, hlt2, k0, k1, k2, hw2⟩ := cis_get hS.list (z := n + j) hB
            rw [hE] at m0 m1 m2 hw1
            have hc12 := HCL.out.2.1 _ (List.getElem_mem hB)
            obtain ⟨c, hc⟩ : ∃ c, c = (told p cs)[n + j] := ⟨_, rfl⟩
            rw [← hc] at m0 m1 m2 hw1 k0 k1 k2 hw2 hc12
            clear hc hE
            have HSM := Lib.hid (same_one (wc := wc) (vc := vc) c hw1 hw2 (by omega))
            obtain ⟨sq, at_, ws⟩ := c
            obtain ⟨wl, hwl⟩ : ∃ wl, wl = ws.length := ⟨_, rfl⟩
            simp only at m0 m1 m2 k0 k1 k2 HSM
            rw [← hwl] at m2 k2 HSM
            have hbA : Below wr.heap.size wr (wr.alloc (.cells #[.int .i64 sq, .int .i64 at_, .slice wa wl wc] 43)) := (Below.refl _ wr).alloc (Nat.le_refl _) _
            have t0 := (hS.below hbA).box.cell 0
            have t0' := hS.box.cell 0
            have hbl := hS.box.lt
            simp only [List.getElem?_toArray, List.getElem?_cons_zero] at t0 t0'
            replace k0 := (hbA.cell (p := ⟨b2, _, none⟩) hlt2).trans k0
            replace k1 := (hbA.cell (p := ⟨b2, _, none⟩) hlt2).trans k1
            replace k2 := (hbA.cell (p := ⟨b2, _, none⟩) hlt2).trans k2
            have HR : Hid (∀ w2, Below (wr.alloc (.cells #[.int .i64 sq, .int .i64 at_, .slice wa wl wc] 43)).drew.heap.size (wr.alloc (.cells #[.int .i64 sq, .int .i64 at_, .slice wa wl wc] 43)).drew w2 → Below w6.heap.size w6 w2) := Lib.hid fun w2 hb => hsj.out.trans ((hbA.trans ((show Below (wr.alloc (.cells #[.int .i64 sq, .int .i64 at_, .slice wa wl wc] 43)).heap.size (wr.alloc (.cells #[.int .i64 sq, .int .i64 at_, .slice wa wl wc] 43)) w2 from (Below.refl _ _).drew.trans hb).mono hbA.size)).mono hsj.out.size)
            have HSB : Hid (Below wr.heap.size wr (wr.alloc (.cells #[.int .i64 sq, .int .i64 at_, .slice wa wl wc] 43)).drew) := Lib.hid hbA.drew
            subst e1
            clear hw1 hw2 hc12 hwl hS hsj hA hB hbA
            subst e2
            have hwn : IntKind.i64.wrap (((n + j : Nat) : Int) + 1) = ((n + (j + 1) : Nat) : Int) := by rw [IntKind.wrap_i64]; omega
            obtain ⟨nj, hnj⟩ : ∃ nj, nj = n + j := ⟨_, rfl⟩
            have HNJ := Lib.hid hnj
            rw [← hnj] at hjn hjn2 k0 k1 k2 hwn ⊢
            clear hnj
            go_wp2_with fail
            go_region_law (go_simp; go_at_call 39; refine (HSM.out _ HSB.out).mono ?_; rintro e w7 ⟨rfl, hb7⟩)
            all_goals
              have HN := Lib.hid (HR.out _ hb7)
              clear HR HSM hb7
              go_wp2
              go_roundw
              case rel => exact ⟨j + 1, by omega, by go_num, by have := HNJ.out; go_num, HN⟩
              case measure => simp [intOf]; omega
          · obtain rfl : j = n1 := by omega
            have hjI : ((j : Int) < (j : Int)) = False := eq_false (by omega)
            have hb6x : Box wr b6 58 #[.slice ob j od, .int .i64 (mk1 : Int)] := (hsj.out.block _ H6.out.2.2.lt).trans H6.out.2.2
            have t1 := hb6x.cell 1
            simp only [List.getElem?_toArray, List.getElem?_cons_zero, List.getElem?_cons_succ] at t1
            have HN : Hid (n + j = (told p (cs.take mk1)).length ∧ StS w wr s M cs bb oa n0 oc p) := Lib.hid ⟨HNX.out.1, hS⟩
            clear hS hsj hb6x H6 HNX
            go_wp2_with fail
            go_roundw
            case rel => exact ⟨mk1, i + 1, n + j, by omega, by omega, by omega, rfl, rfl, by go_num, HN⟩
            case measure => simp [intOf]; omega
      · have hilI : ((i : Int) < (ln : Int)) = False := eq_false (by omega)
        have HP1 : Hid (Calls Try.prog 37 #[.pointer (some ⟨s, 0, none⟩), .int .i64 ((m : Nat) : Int), .string p, .int .i64 1] wo fun e W' => ∃ n oa oc mk, e = .returned (.tuple #[.agg #[.slice oa n oc, .int .i64 ((mk : Nat) : Int)], .int .i64 0]) ∧ Hid (PlO wo W' cs m p 1 n oa oc mk)) := Lib.hid (HPO.out wo s m 1 hst.out.2.store (by omega) (by omega) (by omega))
        clear HCX
        go_wp2_with fail
        refine HP1.out.mono ?_
        rintro e w5 ⟨n1, ob, od, mk1, rfl, HPL⟩
        clear HP1
        have hlo1 := HPL.out.lo
        have hhi1 : mk1 ≤ mk := by have := HPL.out.hi; rw [HCL.out.1] at this; exact this
        have hup1 : m < mk1 := HPL.out.up (by rw [HCL.out.1]; exact hml)
        have hn1 : n + n1 ≤ n0 := by
          have h1 := congrArg List.length HPL.out.part
          rw [List.length_append, HPL.out.num, ← hst.out.1] at h1
          have h2 : (told p (cs.take mk1)).length ≤ (told p cs).length := by
            rw [told_split p cs mk1, List.length_append]
            omega
          rw [← HN0.out] at h2
          omega
        have H6 : Hid (StS w (w5.alloc (.cells #[.slice ob n1 od, .int .i64 (mk1 : Int)] 58)) s M cs bb oa n0 oc p ∧ CIs (w5.alloc (.cells #[.slice ob n1 od, .int .i64 (mk1 : Int)] 58)) ob ((told p (cs.drop m)).take n1) ∧ Box (w5.alloc (.cells #[.slice ob n1 od, .int .i64 (mk1 : Int)] 58)) w5.heap.size 58 #[.slice ob n1 od, .int .i64 (mk1 : Int)]) := Lib.hid (by
          have h2 : Below w5.heap.size w5 (w5.alloc (.cells #[.slice ob n1 od, .int .i64 (mk1 : Int)] 58)) := (Below.refl _ w5).alloc (Nat.le_refl _) _
          have h3 : CmsOwn wo.heap.size w5 (.slice ob ((told p (cs.drop m)).take n1).length od) ((told p (cs.drop m)).take n1) := by rw [HPL.out.num]; exact HPL.out.list
          exact ⟨(hst.out.2.below HPL.out.low).below h2, h3.is.below h2, Box.new w5 58 _⟩)
        obtain ⟨w6, hw6⟩ : ∃ w6, w6 = (w5.alloc (.cells #[.slice ob n1 od, .int .i64 (mk1 : Int)] 58)) := ⟨_, rfl⟩
        obtain ⟨b6, hb6⟩ : ∃ b6, b6 = w5.heap.size := ⟨_, rfl⟩
        rw [← hw6, ← hb6] at H6
        have HNX : Hid (n + n1 = (told p (cs.take mk1)).length ∧ ∀ j, j < n1 → ∃ h1 : j < ((told p (cs.drop m)).take n1).length, ∃ h2 : n + j < (told p cs).length, ((told p (cs.drop m)).take n1)[j] = (told p cs)[n + j]) := Lib.hid (by
          refine ⟨by rw [HPL.out.part, List.length_append, HPL.out.num, ← hst.out.1], fun j hj => ?_⟩
          have hA : j < ((told p (cs.drop m)).take n1).length := by rw [HPL.out.num]; exact hj
          have hB : n + j < (told p cs).length := by rw [← HN0.out]; omega
          refine ⟨hA, hB, ?_⟩
          have h1 := told_split p cs m
          have h2 : (told p cs)[n + j]? = (told p (cs.drop m))[j]? := by
            rw [h1, List.getElem?_append_right (by rw [← hst.out.1]; omega), ← hst.out.1, Nat.add_sub_cancel_left]
          have h3 : ((told p (cs.drop m)).take n1)[j]? = (told p (cs.drop m))[j]? := by rw [List.getElem?_take, if_pos hj]
          rw [List.getElem?_eq_getElem hB] at h2
          rw [List.getElem?_eq_getElem hA, ← h2] at h3
          exact Option.some.inj h3)
        have HW6 := Lib.hid hw6
        have HB6 := Lib.hid hb6
        have hlI : ((mk1 : Int) < (m : Int)) = False := eq_false (by omega)
        clear hst HPL hw6 hb6
        go_wp2_with fail
        rw [← HW6.out, ← HB6.out]
        go_loopw [93, 12] (fun jv nv wj => ∃ j : Nat, j ≤ n1 ∧ jv = .int .i64 (j : Int) ∧ nv = .int .i64 ((n + j : Nat) : Int) ∧ Hid (Below w6.heap.size w6 wj)) (fun jv _ _ => n1 - (intOf jv).toNat)
        case atStart => exact ⟨0, Nat.zero_le _, rfl, rfl, Lib.hid (Below.refl _ _)⟩
        case round =>
          obtain ⟨j, hj, rfl, rfl, hsj⟩ := hrel
          have hS := H6.out.1.below hsj.out
          by_cases hjl : j < n1
          · have hjI : (j : Int) < (n1 : Int) := by omega
            have hjn : ((n0 : Int) ≤ ((n + j : Nat) : Int)) = False := eq_false (by omega)
            have hjn2 : ((n + j : Nat) : Int) < (n0 : Int) := by omega
            obtain ⟨hA, hB, hE⟩ := HNX.out.2 j hjl
            obtain ⟨b1, o1, wa, wc, e1, hlt1, m0, m1, m2, hw1⟩ := cis_get (H6.out.2.1.below hsj.out) (z := j) hA
            obtain ⟨b2, o2, va, vc, e2, hlt2, k0, k1, k2, hw2⟩ := cis_get hS.list (z := n + j) hB
            rw [hE] at m0 m1 m2 hw1
            have hc12 := HCL.out.2.1 _ (List.getElem_mem hB)
            obtain ⟨c, hc⟩ : ∃ c, c = (told p cs)[n + j] := ⟨_, rfl⟩
            rw [← hc] at m0 m1 m2 hw1 k0 k1 k2 hw2 hc12
            clear hc hE
            have HSM := Lib.hid (same_one (wc := wc) (vc := vc) c hw1 hw2 (by omega))
            obtain ⟨sq, at_, ws⟩ := c
            obtain ⟨wl, hwl⟩ : ∃ wl, wl = ws.length := ⟨_, rfl⟩
            simp only at m0 m1 m2 k0 k1 k2 HSM
            rw [← hwl] at m2 k2 HSM
            have hbA : Below wr.heap.size wr (wr.alloc (.cells #[.int .i64 sq, .int .i64 at_, .slice wa wl wc] 43)) := (Below.refl _ wr).alloc (Nat.le_refl _) _
            have t0 := (hS.below hbA).box.cell 0
            have t0' := hS.box.cell 0
            have hbl := hS.box.lt
            simp only [List.getElem?_toArray, List.getElem?_cons_zero] at t0 t0'
            replace k0 := (hbA.cell (p := ⟨b2, _, none⟩) hlt2).trans k0
            replace k1 := (hbA.cell (p := ⟨b2, _, none⟩) hlt2).trans k1
            replace k2 := (hbA.cell (p := ⟨b2, _, none⟩) hlt2).trans k2
            have HR : Hid (∀ w2, Below (wr.alloc (.cells #[.int .i64 sq, .int .i64 at_, .slice wa wl wc] 43)).drew.heap.size (wr.alloc (.cells #[.int .i64 sq, .int .i64 at_, .slice wa wl wc] 43)).drew w2 → Below w6.heap.size w6 w2) := Lib.hid fun w2 hb => hsj.out.trans ((hbA.trans ((show Below (wr.alloc (.cells #[.int .i64 sq, .int .i64 at_, .slice wa wl wc] 43)).heap.size (wr.alloc (.cells #[.int .i64 sq, .int .i64 at_, .slice wa wl wc] 43)) w2 from (Below.refl _ _).drew.trans hb).mono hbA.size)).mono hsj.out.size)
            have HSB : Hid (Below wr.heap.size wr (wr.alloc (.cells #[.int .i64 sq, .int .i64 at_, .slice wa wl wc] 43)).drew) := Lib.hid hbA.drew
            subst e1
            clear hw1 hw2 hc12 hwl hS hsj hA hB hbA
            subst e2
            have hwn : IntKind.i64.wrap (((n + j : Nat) : Int) + 1) = ((n + (j + 1) : Nat) : Int) := by rw [IntKind.wrap_i64]; omega
            obtain ⟨nj, hnj⟩ : ∃ nj, nj = n + j := ⟨_, rfl⟩
            have HNJ := Lib.hid hnj
            rw [← hnj] at hjn hjn2 k0 k1 k2 hwn ⊢
            clear hnj
            go_wp2_with fail
            go_region_law (go_simp; go_at_call 39; refine (HSM.out _ HSB.out).mono ?_; rintro e w7 ⟨rfl, hb7⟩)
            all_goals
              have HN := Lib.hid (HR.out _ hb7)
              clear HR HSM hb7
              go_wp2
              go_roundw
              case rel => exact ⟨j + 1, by omega, by go_num, by have := HNJ.out; go_num, HN⟩
              case measure => simp [intOf]; omega
          · obtain rfl : j = n1 := by omega
            have hjI : ((j : Int) < (j : Int)) = False := eq_false (by omega)
            have hb6x : Box wr b6 58 #[.slice ob j od, .int .i64 (mk1 : Int)] := (hsj.out.block _ H6.out.2.2.lt).trans H6.out.2.2
            have t1 := hb6x.cell 1
            simp only [List.getElem?_toArray, List.getElem?_cons_zero, List.getElem?_cons_succ] at t1
            have HN : Hid (n + j = (told p (cs.take mk1)).length ∧ StS w wr s M cs bb oa n0 oc p) := Lib.hid ⟨HNX.out.1, hS⟩
            clear hS hsj hb6x H6 HNX
            go_wp2_with fail
            go_roundw
            case rel => exact ⟨mk1, i + 1, n + j, by omega, by omega, by omega, rfl, rfl, by go_num, HN⟩
            case measure => simp [intOf]; omega
    · obtain rfl : m = mk := by omega
      have hmlI : ((m : Int) < (m : Int)) = False := eq_false (by omega)
      have t0 := hst.out.2.box.cell 0
      simp only [List.getElem?_toArray, List.getElem?_cons_zero] at t0
      have e1 : ((n : Int) == (n0 : Int)) = true := by
        rw [beq_iff_eq, hst.out.1, HN0.out, show cs.take m = cs by rw [← HCL.out.1, List.take_length]]
      have HF := Lib.hid hst.out.2.low
      clear hst HPO HCX
      go_wp2
      first | exact ⟨rfl, HF.out⟩ | (go_ret; exact ⟨rfl, HF.out⟩)


theorem walk {w : World} (a : Option Addr) (len cap : Nat) (hW : ∃ wss, WwsCame w a len wss) (p : ByteArray) (wp : p.size ≤ maxLen) (a2 : Option Addr) (ln cap2 : Nat) (zs : List Int) (hrow : IsRow .i64 w a2 ln cap2 zs) :
    Calls Try.prog 10 #[.slice a len cap, .string p, .slice a2 ln cap2] w fun e W' => e = .returned (.bool true) ∧ Below w.heap.size w W' := by
  by_cases h30 : 30 < len
  · exact walk_out1 a len cap p a2 ln cap2 h30
  by_cases h60 : 60 < p.size
  · exact walk_out2 a len cap p a2 ln cap2 ⟨by omega, h60⟩
  by_cases h40 : 40 < ln
  · exact walk_out3 a len cap p a2 ln cap2 ⟨by omega, by omega, h40⟩
  obtain ⟨wss, hW⟩ := hW
  refine walk_main a len cap hW (by omega) p (by omega) a2 ln cap2 (by omega) zs fun i hi => ?_
  rcases hrow with ⟨_, h1, _⟩ | ⟨x, e, h1, h2, h3, h4, _⟩
  · omega
  · exact ⟨x, e, h4 i (by omega)⟩

end Go.Proofs.Ytookplnegfheeaa.watchSteps
