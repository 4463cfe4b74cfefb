/-
  StoreFrees: whether nobody wrote keys behind a commit; the commits behind it.
-/
import Derived.Test.YtmphcafffblnmaaStFrM
import Derived.Test.YtmphcafffblnmaaStHd
import Derived.StillTailTactics
namespace Go.Proofs.Ytmphcafffblnmaa.storeFrees
open Go.RowKit Go.Proofs.Ytmphcafffblnmaa.tC Go.Proofs.Ytmphcafffblnmaa.sT

set_option linter.unusedVariables false
set_option linter.unusedSimpArgs false

theorem few_any (a : Option Addr) (len cap : Nat) (W : World) : Calls Try.prog 16 #[.slice a len cap] W fun e W' => e = .returned (.bool (decide ((len : Int) ≤ 30))) ∧ W = W' := by
  go_enter Try.func16, Try.ntmps16
  go_wp2
  go_ret
  exact ⟨rfl, rfl⟩

theorem listC_12 (first : Int) (wss : List (List Wr)) : ∀ c ∈ listC first wss, c.ws.length ≤ 12 := fun c hc => by
  obtain ⟨i, hi, hci⟩ := List.getElem_of_mem hc
  rw [listC_len] at hi
  have h := listC_get first wss i hi
  rw [List.getElem?_eq_getElem (by rw [listC_len]; exact hi)] at h
  rw [← hci, Option.some.inj h]
  exact someW_len _

/-- a list of commits, cut off in front -/
theorem cis_drop {W : World} {a : Option Addr} {cs : List CmM} (h : CIs W a cs) {lc k : Nat} (hl : cs.length ≤ lc) {a2 : Option Addr} (ha : (a = none ∧ a2 = none) ∨ ∃ g o o', a = some ⟨g, o, none⟩ ∧ a2 = some ⟨g, o', none⟩ ∧ (k < lc → o' = o + k * 3) ∧ (lc = k → o' ≤ o + k * 3)) : CIs W a2 (cs.drop k) := by
  by_cases hk : cs.length ≤ k
  · exact .inl (List.drop_eq_nil_of_le hk)
  · rcases h with h | ⟨b, off, e, hlt, hv⟩
    · rw [h] at hk; simp at hk
    · rcases ha with ⟨e1, _⟩ | ⟨g, o, o', e1, e2, h3, _⟩
      · rw [e1] at e; cases e
      · rw [e] at e1
        injection e1 with e1
        injection e1 with e3 e4
        subst e3; subst e4
        refine .inr ⟨b, o', e2, hlt, fun i hi => ?_⟩
        rw [List.length_drop] at hi
        rw [List.getElem_drop, h3 (by omega), show off + k * 3 + i * 3 = off + (k + i) * 3 by omega]
        exact hv (k + i) (by omega)

/-- how a list that is owned lies -/
def LiesAt (la : Option Addr) (n lc : Nat) : Prop := (la = none → lc = 0) ∧ (∀ a, la = some a → ∃ g o, a = ⟨g, o, none⟩) ∧ n ≤ lc ∧ lc ≤ maxLen
theorem lies_own {n0 : Nat} {W : World} {a : Option Addr} {c : Nat} {cs : List CmM} (h : CmsOwn n0 W (.slice a cs.length c) cs) : LiesAt a cs.length c := by
  obtain ⟨wvs, h1, _⟩ := h
  rcases h1.1.2 with ⟨e, _⟩ | ⟨g, cap, cur, e, _, _, h2, h3, _⟩
  · injection e with e0 e1 e2
    subst e0
    exact ⟨fun _ => e2, fun a h => (by cases h), (by omega), (by unfold maxLen; omega)⟩
  · injection e with e0 e1 e2
    subst e0; subst e2
    exact ⟨fun h => by (cases h), fun a h => by injection h with h; exact ⟨g, 0, h.symm⟩, h2, h3⟩

/-- what there is ahead of the loops -/
structure FrD (W W7 : World) (s : Nat) (wss : List (List Wr)) (k : Nat) (da ga ya : Option Addr) (ys : List Wr) : Prop where
  low : Below W.heap.size W W7
  st : ∃ P, StoreAt P W7 s (madeM 0 [] (listC 1 wss))
  sg : SG (madeM 0 [] (listC 1 wss)) 400
  list : CIs W7 da ((listC 1 wss).drop k)
  got : CIs W7 ga ((listC 1 wss).drop k)
  mine : WrsIs W7 ya ys

theorem neq_self (x : Wr) (W : World) : (binOp .neq 51 (.agg #[.string x.key, .string x.val, .bool x.gone]) (.agg #[.string x.key, .string x.val, .bool x.gone])).run Try.prog W = .ok (.bool false) W := by
  go_simp

theorem apart_next {xs ys : List Wr} {y : Nat} (h : y < xs.length) : apartW (xs.take (y + 1)) ys = (apartW (xs.take y) ys && ys.all fun z => decide ((xs[y]).key ≠ z.key)) := by
  unfold apartW
  rw [List.take_succ_eq_append_getElem h, List.all_append]
  simp
theorem free_next {cs : List CmM} {ys : List Wr} {z : Nat} (h : z < cs.length) : freeP (cs.take (z + 1)) ys = (freeP (cs.take z) ys && apartW (cs[z]).ws ys) := by
  unfold freeP
  rw [List.take_succ_eq_append_getElem h, List.all_append]
  simp
theorem all_next {xs : List Wr} {x : ByteArray} {q : Nat} (h : q < xs.length) : ((xs.take (q + 1)).all fun z => decide (x ≠ z.key)) = (((xs.take q).all fun z => decide (x ≠ z.key)) && decide (x ≠ (xs[q]).key)) := by
  rw [List.take_succ_eq_append_getElem h, List.all_append]
  simp

/-- a slot that holds a Boolean of which something is known -/
def IsB (fv : Value) (P : Bool → Prop) : Prop := ∃ b, fv = .bool b ∧ P b

attribute [-go_sem] run_neq_struct
attribute [local irreducible] wpStill
set_option maxHeartbeats 2000000 in
set_option maxRecDepth 100000 in
theorem walk_main {W : World} (a : Option Addr) (len cap : Nat) (wss : List (List Wr)) (h : WwsCame W a len wss) (hle : len ≤ 30) (a1 : Option Addr) (len1 cap1 : Nat) (ms : List Wr) (h1 : WrsCame W a1 len1 cap1 ms) (hs1 : SizedW ms) (seq : Int) :
    Calls Try.prog 5 #[.slice a len cap, .slice a1 len1 cap1, .int .i64 seq] W fun e W' => e = .returned (.bool true) ∧ Below W.heap.size W W' := by
  obtain rfl := h.1
  obtain ⟨hl1, hc1, hc2, hw1, _⟩ := h1
  have hfew : decide ((wss.length : Int) ≤ 30) = true := decide_eq_true (by omega)
  have HLI : Hid (∀ W', Below W.heap.size W W' → Calls Try.prog 19 #[.int .i64 1, .slice a wss.length cap] W' fun e W2 => ∃ la lc, e = .returned (.slice la wss.length lc) ∧ Hid (Below W.heap.size W W2 ∧ CIs W2 la (listC 1 wss) ∧ LiesAt la wss.length lc)) := Lib.hid fun W' hb => by
    refine (list_any (cap := cap) 1 ⟨rfl, h.2.1.below hb, h.2.2⟩ (by omega) (by omega) (by omega)).mono ?_
    rintro e W2 ⟨la, lc, rfl, k1, k2⟩
    rw [← listC_len 1 wss] at k1
    exact ⟨la, lc, rfl, Lib.hid ⟨hb.trans (k2.mono hb.size), k1.is, by have := lies_own k1; rwa [listC_len] at this⟩⟩
  have ht : Takes 0 [] (listC 1 wss) := takes_list (first := 0) rfl (by omega) wss (by omega)
  have hsg : SG (madeM 0 [] (listC 1 wss)) 400 := by
    have := SG.made ht 12 (listC_12 1 wss) wss.length (by rw [listC_len]; exact Nat.le_refl _)
    rw [← listC_len 1 wss, List.take_length, listC_len] at this
    exact this.mono (by simp; omega)
  have HMA : Hid (∀ W' la lc, CIs W' la (listC 1 wss) → Calls Try.prog 20 #[.int .i64 0, .slice none 0 0, .slice la wss.length lc] W' fun e W2 => ∃ s, e = .returned (.tuple #[.pointer (some ⟨s, 0, none⟩), .bool true]) ∧ Hid ((∃ P, StoreAt P W2 s (madeM 0 [] (listC 1 wss))) ∧ Below W'.heap.size W' W2)) := Lib.hid fun W' la lc hc => by
    refine (made_any (bc := 0) (cap := lc) 0 (.inl rfl : WrsIs W' none []) rfl hc (listC_len 1 wss) ht (listC_12 1 wss) (by rw [listC_len]; simp; omega) (by omega)).mono ?_
    rintro e W2 ⟨s, rfl, h2⟩
    exact ⟨s, rfl, Lib.hid ⟨h2.out.1.at_, h2.out.2⟩⟩
  have HSO : Hid (∀ W', Below W.heap.size W W' → Calls Try.prog 18 #[.slice a1 len1 cap1] W' fun e W2 => ∃ ya yc, e = .returned (.slice ya (someW ms).length yc) ∧ Hid (WrsIs W2 ya (someW ms) ∧ Below W'.heap.size W' W2)) := Lib.hid fun W' hb => by
    refine (some_any (cap := cap1) (hw1.below hb) hl1 (by omega) hs1).mono ?_
    rintro e W2 ⟨ya, yc, rfl, k1, k2⟩
    obtain ⟨wa, wc, e3, hw⟩ := wrs_of_row (B := fun _ => True) (v := .slice ya (someW ms).length yc) (ws := someW ms) ⟨k1.keep fun q hq => ⟨rfl, Nat.zero_le _⟩, fun _ _ => trivial⟩
    injection e3 with e4
    subst e4
    exact ⟨ya, yc, rfl, Lib.hid ⟨hw, k2⟩⟩
  have hyl := someW_len ms
  obtain ⟨ys, hys⟩ : ∃ ys, ys = someW ms := ⟨_, rfl⟩
  rw [← hys] at HSO hyl
  obtain ⟨k1, k2⟩ := madeM_low 0 [] (listC 1 wss)
  have hlast : (madeM 0 [] (listC 1 wss)).last = wss.length := by unfold StM.last; rw [k1, k2, listC_len]; simp
  have HSI : Hid (∀ W' s, (∃ P, StoreAt P W' s (madeM 0 [] (listC 1 wss))) → Calls Try.prog 30 #[.pointer (some ⟨s, 0, none⟩), .int .i64 seq] W' fun e W2 => Hid (Below W'.heap.size W' W2) ∧
      ((seq < 0 ∧ e = .returned (.tuple #[.slice none 0 0, .int .i64 12])) ∨ (0 ≤ seq ∧ (wss.length : Int) < seq ∧ e = .returned (.tuple #[.slice none 0 0, .int .i64 13])) ∨ ∃ k : Nat, seq = (k : Int) ∧ k ≤ wss.length ∧ ∃ ga gc, e = .returned (.tuple #[.slice ga (wss.length - k) gc, .int .i64 0]) ∧ Hid (CIs W2 ga ((listC 1 wss).drop k)))) := Lib.hid fun W' s ⟨P, hP⟩ => by
    refine (since_any hP hsg (by omega) seq).mono ?_
    rintro e W2 ⟨hb, hcase⟩
    rw [k1, hlast, k2, listC_len] at hcase
    refine ⟨Lib.hid hb, hcase.imp (fun h => by simpa using h) (Or.imp (fun h => by simpa using h) ?_)⟩
    rintro ⟨k, e1, e2, ga, gc, e3, hown⟩
    refine ⟨k, by simpa using e1, e2, ga, gc, e3, Lib.hid ?_⟩
    have hdl : ((listC 1 wss).drop k).length = wss.length - k := by rw [List.length_drop, listC_len]
    rw [← hdl] at hown
    exact hown.is
  have HSG := Lib.hid hsg
  have h30 : wss.length ≤ 30 := hle
  clear h hw1 hs1 hl1 hsg ht k1 k2 hlast hys
  go_enter Try.func5, Try.ntmps5
  go_wp2_with fail
  refine (head_any _).mono ?_
  rintro e w1 ⟨rfl, hb1⟩
  have HB1 := Lib.hid hb1
  clear hb1
  go_wp2_with fail
  refine (few_any _ _ _ _).mono ?_
  rintro e w1' ⟨rfl, rfl⟩
  rw [hfew]
  go_wp2_with fail
  refine (HLI.out w1 HB1.out).mono ?_
  rintro e w2 ⟨la, lc, rfl, hL⟩
  go_wp2_with fail
  have HLY := Lib.hid hL.out.2.2
  refine (HMA.out w2 la lc hL.out.2.1).mono ?_
  rintro e w3 ⟨s, rfl, hM⟩
  have HB3 : Hid (Below W.heap.size W w3 ∧ CIs w3 la (listC 1 wss) ∧ ∃ P, StoreAt P w3 s (madeM 0 [] (listC 1 wss))) := Lib.hid ⟨hL.out.1.trans (hM.out.2.mono hL.out.1.size), hL.out.2.1.below hM.out.2, hM.out.1⟩
  clear hL hM HB1 HLI HMA
  go_wp2_with fail
  refine (HSO.out w3 HB3.out.1).mono ?_
  rintro e w4 ⟨ya, yc, rfl, hY⟩
  have HB4 : Hid (Below W.heap.size W w4 ∧ CIs w4 la (listC 1 wss) ∧ (∃ P, StoreAt P w4 s (madeM 0 [] (listC 1 wss))) ∧ WrsIs w4 ya ys) := Lib.hid ⟨HB3.out.1.trans (hY.out.2.mono HB3.out.1.size), HB3.out.2.1.below hY.out.2, by obtain ⟨P, hP⟩ := HB3.out.2.2; exact ⟨P, hP.below hY.out.2⟩, hY.out.1⟩
  clear hY HB3 HSO
  go_wp2_with fail
  refine (HSI.out w4 s HB4.out.2.2.1).mono ?_
  rintro e w5 ⟨hB5, ⟨hlt, rfl⟩ | ⟨h0, hgt, rfl⟩ | ⟨k, rfl, hk, ga, gc, rfl, hG⟩⟩
  · have HF : Hid (Below W.heap.size W w5) := Lib.hid (HB4.out.1.trans (hB5.out.mono HB4.out.1.size))
    clear HB4 hB5 HSI
    go_wp2
    first | exact ⟨rfl, HF.out⟩ | (go_ret; exact ⟨rfl, HF.out⟩)
  · have HF : Hid (Below W.heap.size W w5) := Lib.hid (HB4.out.1.trans (hB5.out.mono HB4.out.1.size))
    have h0' : (seq < 0) = False := eq_false (by omega)
    clear HB4 hB5 HSI h0
    go_wp2
    first | exact ⟨rfl, HF.out⟩ | (go_ret; exact ⟨rfl, HF.out⟩)
  · obtain ⟨y1, y2, y3, y4⟩ := HLY.out
    obtain ⟨_, da, hsl, hda⟩ := cm_slice la wss.length lc k y1 y2 hk y3 y4
    have HD : Hid (FrD W w5 s wss k da ga ya ys) := Lib.hid (by
      obtain ⟨q1, q2, ⟨P, q3⟩, q4⟩ := HB4.out
      exact ⟨q1.trans (hB5.out.mono q1.size), ⟨P, q3.below hB5.out⟩, HSG.out, cis_drop (q2.below hB5.out) (by rw [listC_len]; exact y3) hda, hG.out, q4.below hB5.out⟩)
    have hw1 : IntKind.i64.wrap ((wss.length : Int) - (k : Int)) = ((wss.length - k : Nat) : Int) := by rw [IntKind.wrap_i64]; omega
    have hk1 : ¬ (wss.length : Int) < (k : Int) := by omega
    clear HB4 hB5 HSI HSG hG y1 y2 y3 y4 hda HLY
    go_wp2_with fail
    clear hsl
    have hDl : ((listC 1 wss).drop k).length = wss.length - k := by rw [List.length_drop, listC_len]
    obtain ⟨D, hDe⟩ : ∃ D, D = (listC 1 wss).drop k := ⟨_, rfl⟩
    rw [← hDe] at hDl
    have HDE := Lib.hid hDe
    clear hDe
    rw [← hDl]
    have hD30 : D.length ≤ 30 := by omega
    clear hDl hw1
    have h0 : freeP (D.take 0) ys = true := by simp [freeP]
    rw [show decide ((k : Int) < 0) = false by simp]
    go_loopw [77, 13] (fun iv fv wr => ∃ z : Nat, z ≤ D.length ∧ iv = .int .i64 (z : Int) ∧ IsB fv fun F => Hid (F = freeP (D.take z) ys ∧ Below w5.heap.size w5 wr)) (fun iv _ _ => D.length - (intOf iv).toNat)
    case atStart => exact ⟨0, Nat.zero_le _, rfl, true, rfl, Lib.hid ⟨h0.symm, Below.refl _ _⟩⟩
    case round =>
      obtain ⟨z, hz, rfl, F, rfl, hst⟩ := hrel
      clear h0
      by_cases hzl : z < D.length
      · have hzI : (z : Int) < (D.length : Int) := by omega
        have hci := HD.out.list
        have hcg := HD.out.got
        rw [← HDE.out] at hci hcg
        rcases hci with hci | ⟨b2, off2, ea, hblt2, hv⟩
        · rw [hci] at hzl; simp at hzl
        rcases hcg with hcg | ⟨b3, off3, eg, hblt3, hv3⟩
        · rw [hcg] at hzl; simp at hzl
        subst ea; subst eg
        obtain ⟨m0, m1, wa, wc, m2, hws⟩ := hv z hzl
        obtain ⟨p0, p1, pa, pc, p2, pws⟩ := hv3 z hzl
        have hlow := hst.out.2
        replace m0 := (hlow.cell (p := ⟨b2, off2 + z * 3, none⟩) hblt2).trans m0
        replace m1 := (hlow.cell (p := ⟨b2, off2 + z * 3 + 1, none⟩) hblt2).trans m1
        replace m2 := (hlow.cell (p := ⟨b2, off2 + z * 3 + 2, none⟩) hblt2).trans m2
        have HP := Lib.hid (And.intro p0 (And.intro p1 p2))
        have HFN := Lib.hid (free_next (ys := ys) hzl)
        obtain ⟨x, hx⟩ : ∃ x, x = D[z] := ⟨_, rfl⟩
        rw [← hx] at m0 m1 m2 hws pws HP HFN
        obtain ⟨sq, at_, ws⟩ := x
        simp only at m0 m1 m2 hws pws HP HFN
        obtain ⟨wA, hwA⟩ : ∃ wA, wA = wr.alloc (.cells #[.int .i64 sq, .int .i64 at_, .slice wa ws.length wc] 43) := ⟨_, rfl⟩
        have hlowA : Below w5.heap.size w5 wA := by rw [hwA]; exact hlow.alloc hlow.size _
        have hbx : Box wA wr.heap.size 43 #[.int .i64 sq, .int .i64 at_, .slice wa ws.length wc] := by rw [hwA]; exact Box.new wr _ _
        have c0 : wA.cell? ⟨wr.heap.size, 0, none⟩ = some (.int .i64 sq) := hbx.cell 0
        have c1 : wA.cell? ⟨wr.heap.size, 1, none⟩ = some (.int .i64 at_) := hbx.cell 1
        have c2 : wA.cell? ⟨wr.heap.size, 2, none⟩ = some (.slice wa ws.length wc) := hbx.cell 2
        have q0 : wA.cell? ⟨b3, off3 + z * 3, none⟩ = some (.int .i64 sq) := (hlowA.cell (p := ⟨b3, off3 + z * 3, none⟩) hblt3).trans HP.out.1
        have q1 : wA.cell? ⟨b3, off3 + z * 3 + 1, none⟩ = some (.int .i64 at_) := (hlowA.cell (p := ⟨b3, off3 + z * 3 + 1, none⟩) hblt3).trans HP.out.2.1
        have q2 : wA.cell? ⟨b3, off3 + z * 3 + 2, none⟩ = some (.slice pa ws.length pc) := (hlowA.cell (p := ⟨b3, off3 + z * 3 + 2, none⟩) hblt3).trans HP.out.2.2
        have HWS := Lib.hid (And.intro hws pws)
        have H2 : Hid ((F && apartW (ws.take 0) ys) = F ∧ Below w5.heap.size w5 wA.drew) := Lib.hid ⟨by simp [apartW], hlowA.drew⟩
        have HFE := Lib.hid hst.out.1
        obtain ⟨n, hn⟩ : ∃ n, n = ws.length := ⟨_, rfl⟩
        rw [← hn] at m2 c2 q2 hwA
        have HLN := Lib.hid hn
        have hwn : n ≤ 1000000 := by
          rw [hn]
          have h5 := listC_12 1 wss ⟨sq, at_, ws⟩ (by rw [hx]; exact List.mem_of_mem_drop (by rw [← HDE.out]; exact List.getElem_mem hzl))
          simp only at h5
          omega
        clear hx hn hv hv3 p0 p1 p2 hws pws hst hlow hlowA hbx
        go_wp2_with fail
        rw [← hwA]
        clear hwA
        refine wp_region_still_lit (by rfl) (by kernel_rfl) ?_
        change wpStill _ _ (World.drew _) (fun a' => _) _ _
        repeat still_step
        refine wpStill_nil ?_
        go_wp2_with fail
        go_loopw [115, 13] (fun iv fv wr => ∃ y : Nat, y ≤ n ∧ iv = .int .i64 (y : Int) ∧ IsB fv fun G => Hid ((F && apartW (ws.take y) ys) = G ∧ Below w5.heap.size w5 wr)) (fun iv _ _ => n - (intOf iv).toNat)
        case atStart => exact ⟨0, Nat.zero_le _, rfl, F, rfl, H2⟩
        case round =>
          obtain ⟨y, hy, rfl, G, rfl, hst⟩ := hrel
          clear H2 c0 c1 c2 q0 q1 q2
          by_cases hyl : y < n
          · have hyI : (y : Int) < (n : Int) := by omega
            have hyw : y < ws.length := by rw [← HLN.out]; exact hyl
            have hlow := hst.out.2
            obtain ⟨b4, off4, e4, hblt4, ⟨r0, r1, r2⟩, _⟩ := HWS.out.1.at_ y hyw
            obtain ⟨b5, off5, e5, hblt5, ⟨t0, t1, t2⟩, _⟩ := HWS.out.2.at_ y hyw
            subst e4; subst e5
            have HAN := Lib.hid (apart_next (ys := ys) hyw)
            obtain ⟨x, hx⟩ : ∃ x, x = ws[y] := ⟨_, rfl⟩
            rw [← hx] at r0 r1 r2 t0 t1 t2 HAN
            have hcmp := neq_self x
            obtain ⟨xk, xv, xg⟩ := x
            simp only at r0 r1 r2 t0 t1 t2 HAN hcmp
            replace r0 := (hlow.cell (p := ⟨b4, off4 + y * 3, none⟩) hblt4).trans r0
            replace r1 := (hlow.cell (p := ⟨b4, off4 + y * 3 + 1, none⟩) hblt4).trans r1
            replace r2 := (hlow.cell (p := ⟨b4, off4 + y * 3 + 2, none⟩) hblt4).trans r2
            obtain ⟨wB, hwB⟩ : ∃ wB, wB = wr.alloc (.cells #[.string xk, .string xv, .bool xg] 51) := ⟨_, rfl⟩
            have hlowB : Below w5.heap.size w5 wB := by rw [hwB]; exact hlow.alloc hlow.size _
            have hbx : Box wB wr.heap.size 51 #[.string xk, .string xv, .bool xg] := by rw [hwB]; exact Box.new wr _ _
            have c0 : wB.cell? ⟨wr.heap.size, 0, none⟩ = some (.string xk) := hbx.cell 0
            have c1 : wB.cell? ⟨wr.heap.size, 1, none⟩ = some (.string xv) := hbx.cell 1
            have c2 : wB.cell? ⟨wr.heap.size, 2, none⟩ = some (.bool xg) := hbx.cell 2
            have q2 : wB.cell? ⟨b3, off3 + z * 3 + 2, none⟩ = some (.slice (some ⟨b5, off5, none⟩) n pc) := by
              have := (hlowB.cell (p := ⟨b3, off3 + z * 3 + 2, none⟩) hblt3).trans HP.out.2.2
              rwa [← HLN.out] at this
            replace t0 := (hlowB.cell (p := ⟨b5, off5 + y * 3, none⟩) hblt5).trans t0
            replace t1 := (hlowB.cell (p := ⟨b5, off5 + y * 3 + 1, none⟩) hblt5).trans t1
            replace t2 := (hlowB.cell (p := ⟨b5, off5 + y * 3 + 2, none⟩) hblt5).trans t2
            obtain ⟨bq, hbq⟩ : ∃ bq, bq = wr.heap.size := ⟨_, rfl⟩
            have H3 : Hid ((G && (ys.take 0).all fun z => decide (xk ≠ z.key)) = G ∧ Below w5.heap.size w5 wB.drew ∧ bq < wB.drew.heap.size ∧ wB.drew.cell? ⟨bq, 0, none⟩ = some (.string xk)) := Lib.hid ⟨by simp, hlowB.drew, by rw [hbq]; exact hbx.lt, by rw [hbq]; exact c0⟩
            have HGE := Lib.hid hst.out.1
            rw [← hbq] at c0 c1 c2
            clear hx hst hlow hlowB hbx hyw
            go_wp2_with fail
            rw [← hwB, ← hbq]
            clear hwB hbq
            refine wp_region_still_lit (by rfl) (by kernel_rfl) ?_
            change wpStill _ _ (World.drew _) (fun a' => _) _ _
            repeat still_step
            refine wpStill_nil ?_
            go_wp2_with fail
            go_loopw [132, 13] (fun iv fv wr => ∃ q : Nat, q ≤ ys.length ∧ iv = .int .i64 (q : Int) ∧ IsB fv fun E => Hid ((G && (ys.take q).all fun z => decide (xk ≠ z.key)) = E ∧ Below w5.heap.size w5 wr ∧ bq < wr.heap.size ∧ wr.cell? ⟨bq, 0, none⟩ = some (.string xk))) (fun iv _ _ => ys.length - (intOf iv).toNat)
            case atStart => exact ⟨0, Nat.zero_le _, rfl, G, rfl, H3⟩
            case round =>
              obtain ⟨q, hq, rfl, E, rfl, hst⟩ := hrel
              clear H3 c0 c1 c2 q2 t0 t1 t2 r0 r1 r2 hcmp
              by_cases hql : q < ys.length
              · have hqI : (q : Int) < (ys.length : Int) := by omega
                have hlow := hst.out.2.1
                obtain ⟨b6, off6, e6, hblt6, ⟨s0, s1, s2⟩, _⟩ := HD.out.mine.at_ q hql
                subst e6
                have HQN := Lib.hid (all_next (x := xk) hql)
                obtain ⟨x, hx⟩ : ∃ x, x = ys[q] := ⟨_, rfl⟩
                rw [← hx] at s0 s1 s2 HQN
                obtain ⟨yk, yv, yg⟩ := x
                simp only at s0 s1 s2 HQN
                replace s0 := (hlow.cell (p := ⟨b6, off6 + q * 3, none⟩) hblt6).trans s0
                replace s1 := (hlow.cell (p := ⟨b6, off6 + q * 3 + 1, none⟩) hblt6).trans s1
                replace s2 := (hlow.cell (p := ⟨b6, off6 + q * 3 + 2, none⟩) hblt6).trans s2
                have hkc : (wr.alloc (.cells #[.string yk, .string yv, .bool yg] 51)).cell? ⟨bq, 0, none⟩ = some (.string xk) := (World.cell?_of_block (a := ⟨bq, 0, none⟩) (Below.heap_alloc wr _ _ hst.out.2.2.1)).trans hst.out.2.2.2
                have HN : Hid (∀ E2, (E && decide (xk ≠ yk)) = E2 → (G && (ys.take (q + 1)).all fun z => decide (xk ≠ z.key)) = E2 ∧ Below w5.heap.size w5 (wr.alloc (.cells #[.string yk, .string yv, .bool yg] 51)) ∧ bq < (wr.alloc (.cells #[.string yk, .string yv, .bool yg] 51)).heap.size ∧ (wr.alloc (.cells #[.string yk, .string yv, .bool yg] 51)).cell? ⟨bq, 0, none⟩ = some (.string xk)) := Lib.hid fun E2 hE => by
                  refine ⟨?_, hlow.alloc hlow.size _, by rw [World.size_alloc]; have := hst.out.2.2.1; omega, hkc⟩
                  rw [HQN.out, ← Bool.and_assoc, hst.out.1, hE]
                clear hx hst hlow
                cases E
                · have HN2 := Lib.hid (HN.out false rfl)
                  clear HN
                  go_wp2_with fail
                  go_roundw
                  case rel => exact ⟨q + 1, by omega, by go_num, false, rfl, HN2⟩
                  case measure => simp [intOf]; omega
                · by_cases hxy : xk = yk
                  · have HN2 := Lib.hid (HN.out false (by simp [hxy]))
                    have hkk : (xk.toList == yk.toList) = true := by rw [hxy]; exact beq_self_eq_true _
                    clear HN hxy
                    go_wp2_with fail
                    go_roundw
                    case rel => exact ⟨q + 1, by omega, by go_num, false, by simp [hkk], HN2⟩
                    case measure => simp [intOf]; omega
                  · have HN2 := Lib.hid (HN.out true (by simp [hxy]))
                    have hkk : (xk.toList == yk.toList) = false := by
                      rw [Lib.toList_data, Lib.toList_data]
                      exact Bool.eq_false_iff.2 fun e => hxy ((key8 _ _).1 (eq_of_beq e))
                    clear HN hxy
                    go_wp2_with fail
                    go_roundw
                    case rel => exact ⟨q + 1, by omega, by go_num, true, by simp [hkk], HN2⟩
                    case measure => simp [intOf]; omega
              · obtain rfl : q = ys.length := by omega
                have hqI : ¬ (ys.length : Int) < (ys.length : Int) := by omega
                have HN : Hid ((F && apartW (ws.take (y + 1)) ys) = E ∧ Below w5.heap.size w5 wr) := Lib.hid ⟨by
                  have h1 := hst.out.1
                  rw [List.take_length] at h1
                  rw [HAN.out, ← Bool.and_assoc, HGE.out, h1], hst.out.2.1⟩
                clear hst hql hq
                go_wp2_with fail
                go_roundw
                case rel => exact ⟨y + 1, by omega, by go_num, E, rfl, HN⟩
                case measure => simp [intOf]; omega
          · obtain rfl : y = n := by omega
            have hyI : ¬ (y : Int) < (y : Int) := by omega
            have HN : Hid (G = freeP (D.take (z + 1)) ys ∧ Below w5.heap.size w5 wr) := Lib.hid ⟨by
              have h1 := hst.out.1
              rw [HLN.out, List.take_length] at h1
              rw [HFN.out, ← HFE.out, ← h1], hst.out.2⟩
            clear hst hyl hy
            go_wp2_with fail
            go_roundw
            case rel => exact ⟨_, _, _, _, _, _, _, _, ⟨z + 1, by omega, by go_num, G, rfl, HN⟩, rfl, rfl, rfl, rfl, rfl, rfl, rfl, rfl⟩
            case measure => simp [intOf]; omega
      · obtain rfl : z = D.length := by omega
        have hzI : ¬ (D.length : Int) < (D.length : Int) := by omega
        have HF : Hid (Calls Try.prog 31 #[.pointer (some ⟨s, 0, none⟩), .slice ya ys.length yc, .int .i64 (k : Int)] wr fun e W' => e = .returned (.bool F) ∧ Hid (Below W.heap.size W W')) := Lib.hid (by
          obtain ⟨P, hP⟩ := HD.out.st
          have hlow := hst.out.2
          refine (free_any (cap := yc) (hP.below hlow) (HD.out.sg.good (by omega)) (HD.out.mine.below hlow) rfl (by omega) (k : Int)).mono ?_
          rintro e W' ⟨rfl, hb⟩
          rw [all_free HD.out.sg, hst.out.1, List.take_length, HDE.out]
          exact ⟨rfl, Lib.hid (HD.out.low.trans ((hlow.trans (hb.mono hlow.size)).mono HD.out.low.size))⟩)
        clear hst hzl hz HD HDE
        go_wp2_with fail
        refine HF.out.mono ?_
        rintro e w6 ⟨rfl, hF⟩
        go_wp2
        first | exact ⟨rfl, hF.out⟩ | (go_ret; exact ⟨by simp, hF.out⟩) | exact ⟨by simp, hF.out⟩

theorem walk_out {W : World} (a : Option Addr) (len cap : Nat) (h : 30 < len) (a1 : Option Addr) (len1 cap1 : Nat) (seq : Int) :
    Calls Try.prog 5 #[.slice a len cap, .slice a1 len1 cap1, .int .i64 seq] W fun e W' => e = .returned (.bool true) ∧ Below W.heap.size W W' := by
  have hfew : decide ((len : Int) ≤ 30) = false := decide_eq_false (by omega)
  go_enter Try.func5, Try.ntmps5
  go_wp2_with fail
  refine (head_any _).mono ?_
  rintro e w1 ⟨rfl, hb1⟩
  have HB1 := Lib.hid hb1
  clear hb1
  go_wp2_with fail
  refine (few_any _ _ _ _).mono ?_
  rintro e w1' ⟨rfl, rfl⟩
  rw [hfew]
  go_wp2
  first | exact ⟨rfl, HB1.out⟩ | (go_ret; exact ⟨rfl, HB1.out⟩)

theorem walk {w : World} (a : Option Addr) (len cap : Nat) (h : ∃ wss, WwsCame w a len wss) (a1 : Option Addr) (len1 cap1 : Nat) (h1 : ∃ ws, WrsCame w a1 len1 cap1 ws ∧ SizedW ws) (seq : Int) (_ : (Lit.int .i64 seq).wf = true) :
    Calls Try.prog 5 #[.slice a len cap, .slice a1 len1 cap1, .int .i64 seq] w fun e W' => e = .returned (.bool true) ∧ Below w.heap.size w W' := by
  by_cases hl : 30 < len
  · exact walk_out a len cap hl a1 len1 cap1 seq
  · obtain ⟨wss, h⟩ := h
    obtain ⟨ws, h1, h2⟩ := h1
    exact walk_main a len cap wss h (by omega) a1 len1 cap1 ws h1 h2 seq

end Go.Proofs.Ytmphcafffblnmaa.storeFrees
