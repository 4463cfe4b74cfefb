/-
  StoreAgain: its walk.
-/
import Derived.Test.YtcncoppnkodhmaaStAgM
import Derived.Deep.RegionLaw
import Derived.Outline
namespace Go.Proofs.Ytcncoppnkodhmaa.storeAgain
open Go.RowKit Go.Proofs.Ytcncoppnkodhmaa.tC Go.Proofs.Ytcncoppnkodhmaa.sT Go.Proofs.Ytcncoppnkodhmaa.storeFrees

set_option linter.unusedVariables false
set_option linter.unusedSimpArgs false

theorem and_255 (n : Int) : bits .and .i64 n 255 = n % 256 := by
  have hc : (BitVec.ofInt 64 255).toNat = 2 ^ 8 - 1 := by decide
  have key : (BitVec.ofInt 64 n &&& BitVec.ofInt 64 255).toNat = (n % ((2 ^ 64 : Nat) : Int)).toNat % 2 ^ 8 := by
    rw [BitVec.toNat_and, BitVec.toNat_ofInt, hc, Nat.and_two_pow_sub_one_eq_mod]
  show IntKind.i64.wrap ((BitVec.ofInt 64 n &&& BitVec.ofInt 64 255).toNat : Nat) = n % 256
  rw [key, IntKind.wrap_i64]
  omega

/-- what lies in memory while the two stores are looked at -/
structure AgS (W wr : World) (la ba : Option Addr) (B : List Wr) (cs : List CmM) (s t n4 n5 : Nat) (S T : StM) : Prop where
  low : Below W.heap.size W wr
  list : CIs wr la cs
  base : WrsIs wr ba B
  old : ∃ P, StoreAt P wr s S ∧ ∀ q, P q → n4 ≤ q ∧ q < n5
  new : ∃ Q, StoreAt Q wr t T ∧ ∀ q, Q q → n5 ≤ q ∧ q < wr.heap.size
  n4 : W.heap.size ≤ n4 ∧ n4 ≤ n5 ∧ n5 ≤ wr.heap.size
theorem AgS.below {W wr w' : World} {la ba : Option Addr} {B : List Wr} {cs : List CmM} {s t n4 n5 : Nat} {S T : StM} (h : AgS W wr la ba B cs s t n4 n5 S T) (hb : Below wr.heap.size wr w') : AgS W w' la ba B cs s t n4 n5 S T := by
  obtain ⟨h1, h2, h3, ⟨P, h4, h5⟩, ⟨Q, h6, h7⟩, h8⟩ := h
  have hz := hb.size
  exact ⟨h1.trans (hb.mono h1.size), h2.below hb, h3.below hb, ⟨P, h4.below hb, h5⟩, ⟨Q, h6.below hb, fun q hq => ⟨(h7 q hq).1, by have := (h7 q hq).2; omega⟩⟩, h8.1, h8.2.1, by omega⟩

set_option maxHeartbeats 8000000 in
set_option maxRecDepth 100000 in
theorem walk_main {W : World} (a0 : Option Addr) (len0 cap0 : Nat) (bs : List Wr) (hB : WrsCame W a0 len0 cap0 bs) (hsB : SizedW bs) (a : Option Addr) (len cap : Nat) (wss : List (List Wr)) (h : WwsCame W a len wss) (hle : len ≤ 30) (at_ : Int) :
    Calls Try.prog 6 #[.slice a0 len0 cap0, .slice a len cap, .int .i64 at_] W fun e W' => e = .returned (.bool true) ∧ Below W.heap.size W W' := by
  have hlw : wss.length = len := h.1
  have hfew : decide ((len : Int) ≤ 30) = true := decide_eq_true (by omega)
  obtain ⟨c0, hc0⟩ : ∃ c0 : Nat, at_ % 256 = (c0 : Int) := ⟨(at_ % 256).toNat, by omega⟩
  have hm := and_255 at_
  rw [hc0] at hm
  obtain ⟨k, hk, HK⟩ : ∃ k : Nat, k ≤ len ∧ Hid ((c0 : Int) % ((len : Int) + 1) = (k : Int)) := ⟨c0 % (len + 1), Nat.le_of_lt_succ (Nat.mod_lt _ (by omega)), Lib.hid (by simp)⟩
  have hc256 : c0 ≤ 255 := by omega
  clear hc0
  obtain ⟨B, hBe⟩ : ∃ B, B = baseB bs := ⟨_, rfl⟩
  obtain ⟨cs, hcs⟩ : ∃ cs, cs = listC (((0 : Nat) : Int) + 1) wss := ⟨_, rfl⟩
  have hcl : cs.length = len := by rw [hcs, listC_len, hlw]
  have hin : AgIn 0 B cs k := by rw [hBe, hcs]; exact ag_in bs wss (by omega)
  obtain ⟨S, hS⟩ : ∃ S, S = madeM 0 B cs := ⟨_, rfl⟩
  obtain ⟨X, hX⟩ : ∃ X, X = agB 0 B cs k := ⟨_, rfl⟩
  obtain ⟨T, hT⟩ : ∃ T, T = madeM (0 + k) X (cs.drop k) := ⟨_, rfl⟩
  have hsg : SG S 500 := by rw [hS, hBe, hcs]; exact pre_sg (by omega) bs wss (by omega)
  have hXl : X.length ≤ 500 := by rw [hX]; rw [hS] at hsg; exact agB_len hsg
  have htk : Takes (0 + k) X (cs.drop k) := by
    rw [hX]
    have := ag_takes (n := k) (first := 0) (B := B) (wss := wss) (by omega) (by rw [← hcs]; exact hin) (by omega)
    rwa [← hcs] at this
  have h12 : ∀ c ∈ cs.drop k, c.ws.length ≤ 12 := fun c hc => listC_12 (((0 : Nat) : Int) + 1) wss c (by rw [← hcs]; exact List.mem_of_mem_drop hc)
  have hdl : (cs.drop k).length = len - k := by rw [List.length_drop, hcl]
  have hsgT : SG T 1000 := by
    have := SG.made htk 12 h12 (cs.drop k).length (Nat.le_refl _)
    rw [List.take_length, ← hT] at this
    exact this.mono (by rw [hdl]; omega)
  obtain ⟨sl1, sl2⟩ := madeM_low 0 B cs
  obtain ⟨tl1, tl2⟩ := madeM_low (0 + k) X (cs.drop k)
  rw [← hS] at sl1 sl2
  rw [← hT] at tl1 tl2
  have hSlast : (S.last : Int) = (len : Int) := by unfold StM.last; rw [sl1, sl2, hcl]; omega
  have hTlast : (T.last : Int) = (len : Int) := by unfold StM.last; rw [tl1, tl2, hdl]; omega
  have hTlow : (T.low : Int) = (k : Int) := by rw [tl1]; omega
  have hkeyX : ∀ w ∈ X, w.key.size ≤ 400 := fun w hw => by rw [hX] at hw; exact (isR_size (hin.base.2.2.1 w hw)).1
  have hkeyC : ∀ c ∈ cs, ∀ w ∈ c.ws, w.key.size ≤ 400 := fun c hc w hw => (isR_size (hin.okC c hc w hw)).1
  have hkT : ∀ p ∈ T.keys, p.1.size ≤ 400 := by rw [hT]; exact key_made _ _ hkeyX _ fun c hc => hkeyC c (List.mem_of_mem_drop hc)
  have hlook : ∀ q : Nat, k ≤ q → q ≤ len → T.tells (q : Int) = true ∧ (T.look ⟨#[]⟩ (q : Int) ⟨#[]⟩).map kvW = atM (upTo B cs (q : Int)) := fun q q1 q2 => by
    refine ⟨by unfold StM.tells; rw [hTlow, hTlast, Bool.and_eq_true, decide_eq_true_eq, decide_eq_true_eq]; omega, ?_⟩
    rw [hT, hX]
    exact ag_look hin (by omega) (by rw [hcl]; omega)
  have hvers : (S.vacuum k).versions = T.versions := by
    rw [hS] at hsg
    rw [hS, hT, hX]
    exact ag_versions hin hsg (by rw [hBe]; exact baseB_gone bs) (by rw [hBe]; exact baseB_rise bs)
  have HSO := Lib.hid (pre_some hB hsB)
  have HTH := Lib.hid (pre_there bs)
  have HLI := Lib.hid (pre_list cap h hle 0 (by omega))
  have HMA := Lib.hid (pre_made (first := 0) (by omega) bs wss (by omega))
  rw [← hBe] at HTH HMA
  rw [← hcs] at HLI HMA
  rw [← hS] at HMA
  rw [hlw] at HMA
  have HMT : Hid (∀ W' xa xm xc da dc, xm = X.length → WrsIs W' xa X → CIs W' da (cs.drop k) → Calls Try.prog 20 #[.int .i64 (k : Int), .slice xa xm xc, .slice da (len - k) dc] W' fun e W2 => ∃ t, e = .returned (.tuple #[.pointer (some ⟨t, 0, none⟩), .bool true]) ∧ Hid (Sep W'.heap.size (fun _ => False) W2 t T ∧ Below W'.heap.size W' W2)) := Lib.hid fun W' xa xm xc da dc hxm hx hd => by
    have := made_any (bc := xc) (cap := dc) (0 + k) hx hxm.symm hd hdl htk h12 (by rw [hdl]; omega) (by omega)
    rw [← hT] at this
    rwa [show (((0 + k : Nat)) : Int) = (k : Int) by omega] at this
  have HBS : Hid (∀ W' s, (∃ P, StoreAt P W' s S) → Calls Try.prog 33 #[.pointer (some ⟨s, 0, none⟩), .int .i64 (k : Int)] W' fun e W2 => ∃ xa xm xc, e = .returned (.slice xa xm xc) ∧ xm = X.length ∧ Hid (WrsIs W2 xa X ∧ Below W'.heap.size W' W2)) := Lib.hid fun W' s ⟨P, hP⟩ => by
    refine (base_any hP hsg (by omega) (k : Int)).mono ?_
    have e : S.baseL (k : Int) = X := by rw [hX, hS]; unfold agB; rw [show (((0 + k : Nat)) : Int) = (k : Int) by omega]
    rw [e]
    rintro e W2 ⟨xa, xc, rfl, k1, k2⟩
    exact ⟨xa, _, xc, rfl, rfl, Lib.hid ⟨wrs_at_row k1, k2⟩⟩
  have HAT : Hid (∀ wr ba bl bc la lc (q : Nat), bl = B.length → WrsIs wr ba B → CIs wr la cs → Calls Try.prog 23 #[.slice ba bl bc, .slice la len lc, .int .i64 (q : Int)] wr fun e w2 => ∃ b, e = .returned (.map (some b)) ∧ Hid (AtI wr b (upTo B cs (q : Int)) w2)) := Lib.hid fun wr ba bl bc la lc q hbl hb hc => by
    subst hbl
    have hws := hsg.ws
    rw [sl2] at hws
    have := at_map (bc := bc) (cap := lc) hb hc (q : Int) (by rw [hBe]; exact baseB_gone bs) (fun w hw => by rw [hBe] at hw; have := (baseB_ok bs w hw).2.1; unfold maxLen; omega) (fun c hc w hw => by have := hkeyC c hc w hw; unfold maxLen; omega) (fun c hc => by have := listC_12 (((0 : Nat) : Int) + 1) wss c (by rw [← hcs]; exact hc); omega) (by have := baseB_len bs; rw [hBe]; omega) (by omega)
    rw [hcl] at this
    exact this
  have HSH : Hid (∀ wr t b (q : Nat), k ≤ q → q ≤ len → (∃ Q, StoreAt Q wr t T) → (∃ W0, AtI W0 b (upTo B cs (q : Int)) wr) → Calls Try.prog 24 #[.pointer (some ⟨t, 0, none⟩), .map (some b), .int .i64 (q : Int)] wr fun e w2 => e = .returned (.bool true) ∧ Hid (Below wr.heap.size wr w2)) := Lib.hid fun wr t b q q1 q2 ⟨Q, hQ⟩ ⟨W0, ⟨n, _, hm⟩, _, _⟩ => by
    obtain ⟨r1, r2⟩ := hlook q q1 q2
    rw [← r2] at hm
    refine (shows_any hQ hsgT (by omega) hkT (q : Int) r1 hm).mono ?_
    rintro e w2 ⟨rfl, hb⟩
    exact ⟨rfl, Lib.hid hb⟩
  have HTL : Hid (∀ wr t, (∃ Q, StoreAt Q wr t T) → Calls Try.prog 21 #[.pointer (some ⟨t, 0, none⟩)] wr fun e w2 => e = .returned (.int .i64 (k : Int)) ∧ wr = w2) := Lib.hid fun wr t ⟨Q, hQ⟩ => by
    have := low_any hQ
    rwa [hTlow] at this
  have HTA : Hid (∀ wr t, (∃ Q, StoreAt Q wr t T) → Calls Try.prog 22 #[.pointer (some ⟨t, 0, none⟩)] wr fun e w2 => e = .returned (.int .i64 (len : Int)) ∧ Below wr.heap.size wr w2) := Lib.hid fun wr t ⟨Q, hQ⟩ => by
    have := stLast_any hQ
    rwa [hTlast] at this
  have HSA : Hid (∀ wr s, (∃ P, StoreAt P wr s S) → Calls Try.prog 22 #[.pointer (some ⟨s, 0, none⟩)] wr fun e w2 => e = .returned (.int .i64 (len : Int)) ∧ Below wr.heap.size wr w2) := Lib.hid fun wr s ⟨P, hP⟩ => by
    have := stLast_any hP
    rwa [hSlast] at this
  have HVA : Hid (∀ wr la ba s t n4 n5, AgS W wr la ba B cs s t n4 n5 S T → Calls Try.prog 30 #[.pointer (some ⟨s, 0, none⟩), .int .i64 (k : Int)] wr fun e w2 => e = .returned (.int .i64 0) ∧ Hid (Below W.heap.size W w2 ∧ (∃ P, StoreAt P w2 s (S.vacuum k)) ∧ ∃ Q, StoreAt Q w2 t T)) := Lib.hid fun wr la ba s t n4 n5 hA => by
    obtain ⟨P, p1, p2⟩ := hA.old
    obtain ⟨Q, q1, q2⟩ := hA.new
    have hn := hA.n4
    have hsep : Sep n4 (fun q => n5 ≤ q ∧ q < wr.heap.size) wr s S := ⟨⟨P, p1, fun q hq => ⟨(p2 q hq).1, by have := (p2 q hq).2; omega, fun hk => by have := (p2 q hq).2; omega⟩⟩, fun q hq => hq.2, by omega⟩
    refine (sep_vacuum hsep hsg (by omega) (k : Int)).mono ?_
    rintro e w2 ⟨hkept, ⟨c1, _, _⟩ | ⟨n, c1, c2, c3, rfl, c5⟩⟩
    · exfalso
      unfold StM.tells at c1
      rw [hSlast, sl1] at c1
      have h1 : decide (((0 : Nat) : Int) ≤ (k : Int)) = true := decide_eq_true (by omega)
      have h2 : decide ((k : Int) ≤ (len : Int)) = true := decide_eq_true (by omega)
      rw [h1, h2] at c1
      cases c1
    · have hnk : n = k := by rw [sl1] at c2; omega
      subst hnk
      refine ⟨rfl, Lib.hid ⟨hA.low.trans (hkept.below.mono hn.1), c5.at_, Q, ?_⟩⟩
      obtain ⟨cv, wvs, ls, BT, BC, BM, hst⟩ := q1
      exact ⟨cv, wvs, ls, BT, BC, BM, hst.keep hkept.size fun q hq _ _ => ⟨hkept.same q (q2 q hq), hq⟩⟩
  have HV1 : Hid (∀ wr s, (∃ P, StoreAt P wr s (S.vacuum k)) → Calls Try.prog 31 #[.pointer (some ⟨s, 0, none⟩)] wr fun e w2 => e = .returned (.int .i64 (T.versions : Int)) ∧ Below wr.heap.size wr w2) := Lib.hid fun wr s ⟨P, hP⟩ => by
    have := versions_any hP ((hsg.vacuum (n := k) (by rw [sl2, hcl]; exact hk)).good (by omega))
    rwa [hvers] at this
  have HV2 : Hid (∀ wr t, (∃ Q, StoreAt Q wr t T) → Calls Try.prog 31 #[.pointer (some ⟨t, 0, none⟩)] wr fun e w2 => e = .returned (.int .i64 (T.versions : Int)) ∧ Below wr.heap.size wr w2) := Lib.hid fun wr t ⟨Q, hQ⟩ => versions_any hQ (hsgT.good (by omega))
  have HCD := Lib.hid (fun (w' : World) (la da : Option Addr) (lc : Nat) (hc : CIs w' la cs) (hl : len ≤ lc) (hda : (la = none ∧ da = none) ∨ ∃ g o o', la = some ⟨g, o, none⟩ ∧ da = some ⟨g, o', none⟩ ∧ (k < lc → o' = o + k * 3) ∧ (lc = k → o' ≤ o + k * 3)) => cis_drop hc (by rw [hcl]; exact hl) hda)
  obtain ⟨V, hV⟩ : ∃ V, V = T.versions := ⟨_, rfl⟩
  rw [← hV] at HV1 HV2
  clear hB hsB h hlw hin hXl htk h12 hdl hsgT hsg sl1 sl2 tl1 tl2 hSlast hTlast hTlow hkeyX hkeyC hkT hlook hvers hV hBe hcs hS hX hT hcl
  go_enter Try.func6, Try.ntmps6
  go_wp2_with fail
  refine (head_any _).mono ?_
  rintro e w1 ⟨rfl, hb1⟩
  have HB1 := Lib.hid hb1
  clear hb1
  go_wp2_with fail
  refine (few_any _ _ _ _).mono ?_
  rintro e w1' ⟨rfl, rfl⟩
  rw [hfew]
  clear hfew
  go_wp2_with fail
  refine (HSO.out w1 HB1.out).mono ?_
  rintro e w2 ⟨ya, yl, yc, rfl, hyl, HY⟩
  have HYL := Lib.hid hyl
  clear hyl
  go_wp2_with fail
  refine (HTH.out w2 ya yl yc HYL.out HY.out.1).mono ?_
  rintro e w3 ⟨ba, bl, bc, rfl, hbl, HBB⟩
  have HB3 : Hid (Below W.heap.size W w3 ∧ WrsIs w3 ba B) := Lib.hid (by
    have h1 := HB1.out.trans (HY.out.2.mono HB1.out.size)
    exact ⟨h1.trans (HBB.out.2.mono h1.size), HBB.out.1⟩)
  have HBLEN := Lib.hid hbl
  clear HSO HTH HY HBB HB1 HYL hbl
  go_wp2_with fail
  refine (HLI.out w3 HB3.out.1).mono ?_
  rintro e w4 ⟨la, lc, rfl, HL⟩
  have HB4 : Hid (Below W.heap.size W w4 ∧ WrsIs w4 ba B ∧ CIs w4 la cs ∧ LiesAt la len lc) := Lib.hid ⟨HB3.out.1.trans (HL.out.2.2.mono HB3.out.1.size), HB3.out.2.below HL.out.2.2, HL.out.1, HL.out.2.1⟩
  clear HLI HL HB3
  go_wp2_with fail
  refine (HMA.out w4 ba bl bc la lc HBLEN.out HB4.out.2.1 HB4.out.2.2.1).mono ?_
  rintro e w5 ⟨s, rfl, HM⟩
  have HB5 : Hid (Below W.heap.size W w5 ∧ WrsIs w5 ba B ∧ CIs w5 la cs ∧ (∃ P, StoreAt P w5 s S ∧ ∀ q, P q → w4.heap.size ≤ q ∧ q < w5.heap.size) ∧ W.heap.size ≤ w4.heap.size ∧ w4.heap.size ≤ w5.heap.size) := Lib.hid (by
    obtain ⟨⟨⟨P, p1, p2⟩, _, _⟩, hb⟩ := HM.out
    exact ⟨HB4.out.1.trans (hb.mono HB4.out.1.size), HB4.out.2.1.below hb, HB4.out.2.2.1.below hb, ⟨P, p1, fun q hq => ⟨(p2 q hq).1, (p2 q hq).2.1⟩⟩, HB4.out.1.size, hb.size⟩)
  obtain ⟨y1, y2, y3, y4⟩ := HB4.out.2.2.2
  obtain ⟨_, da, hsl, hda⟩ := cm_slice la len lc k y1 y2 hk y3 y4
  have HDA := Lib.hid hda
  have HY3 := Lib.hid y3
  have HSL := Lib.hid hsl
  clear HMA HM HB4 y1 y2 y3 y4 hda hsl
  have hlz : (((len : Int) + 1) == 0) = false := by rw [beq_eq_false_iff_ne]; omega
  go_wp2_with fail
  rw [HK.out]
  have H5 : Hid (Below W.heap.size W w5.drew ∧ ∃ P, StoreAt P w5.drew s S) := Lib.hid ⟨HB5.out.1.drew, by obtain ⟨P, p1, _⟩ := HB5.out.2.2.2.1; exact ⟨P, p1.below (Below.refl _ _).drew⟩⟩
  have hsl := HSL.out
  clear hlz HK hm
  -- REGION 11
  refine wp_region_held_drew (S := fun w' => True) (by kernel_rfl) (by exact trivial) (fun hHeld => ?_)
  try dsimp only [List.append]
  refine wpAnyH_take (i := 0) (oi := _) (v := ?_) rfl (by kernel_rfl) (by kernel_rfl) (by kernel_rfl) (fun _ _ _ h => h) (Or.inl ⟨by rfl, ?_⟩) (by assumption) ?_
  rotate_left
  · (intro w' hSw; (try dsimp only at hSw); go_simp; all_goals with_reducible rfl)
  try simp only [Act.put, List.getElem_toArray, List.getElem_cons_zero, List.getElem_cons_succ, List.setIfInBounds_toArray, List.set_cons_zero, List.set_cons_succ]
  refine wpAnyH_take (i := 1) (oi := _) (v := ?_) rfl (by kernel_rfl) (by kernel_rfl) (by kernel_rfl) (fun _ _ _ h => h) (Or.inl ⟨by rfl, ?_⟩) (by assumption) ?_
  rotate_left
  · (intro w' hSw; (try dsimp only at hSw); go_simp; all_goals with_reducible rfl)
  try simp only [Act.put, List.getElem_toArray, List.getElem_cons_zero, List.getElem_cons_succ, List.setIfInBounds_toArray, List.set_cons_zero, List.set_cons_succ]
  refine wpAnyH_take (i := 2) (oi := _) (v := ?_) rfl (by kernel_rfl) (by kernel_rfl) (by kernel_rfl) (fun _ _ _ h => h) (Or.inl ⟨by rfl, ?_⟩) (by assumption) ?_
  rotate_left
  · (intro w' hSw; (try dsimp only at hSw); go_simp; all_goals with_reducible rfl)
  try simp only [Act.put, List.getElem_toArray, List.getElem_cons_zero, List.getElem_cons_succ, List.setIfInBounds_toArray, List.set_cons_zero, List.set_cons_succ]
  refine wpAnyH_take (i := 4) (oi := _) (v := ?_) rfl (by kernel_rfl) (by kernel_rfl) (by kernel_rfl) (fun _ _ _ h => h) (Or.inl ⟨by rfl, ?_⟩) (by assumption) ?_
  rotate_left
  · (intro w' hSw; (try dsimp only at hSw); go_simp; all_goals with_reducible rfl)
  try simp only [Act.put, List.getElem_toArray, List.getElem_cons_zero, List.getElem_cons_succ, List.setIfInBounds_toArray, List.set_cons_zero, List.set_cons_succ]
  refine wpAnyH_take (i := 5) (oi := _) (v := ?_) rfl (by kernel_rfl) (by kernel_rfl) (by kernel_rfl) (fun _ _ _ h => h) (Or.inl ⟨by rfl, ?_⟩) (by assumption) ?_
  rotate_left
  · (intro w' hSw; (try dsimp only at hSw); go_simp; all_goals with_reducible rfl)
  try simp only [Act.put, List.getElem_toArray, List.getElem_cons_zero, List.getElem_cons_succ, List.setIfInBounds_toArray, List.set_cons_zero, List.set_cons_succ]
  refine wpAnyH_take (i := 6) (oi := _) (v := ?_) rfl (by kernel_rfl) (by kernel_rfl) (by kernel_rfl) (fun _ _ _ h => h) (Or.inl ⟨by rfl, ?_⟩) (by assumption) ?_
  rotate_left
  · (intro w' hSw; (try dsimp only at hSw); go_simp; all_goals with_reducible rfl)
  try simp only [Act.put, List.getElem_toArray, List.getElem_cons_zero, List.getElem_cons_succ, List.setIfInBounds_toArray, List.set_cons_zero, List.set_cons_succ]
  refine wpAnyH_ready (rs := [3]) (by kernel_rfl) (by simp) ?_
  refine AllReadyH.cons rfl (fun K hK => ?_) AllReadyH.nil
  go_simp
  go_at_call 33
  refine (HBS.out _ _ H5.out.2).mono ?_
  rintro e w6 ⟨xa, xm, xc, rfl, hxm, HX⟩
  have HXM := Lib.hid hxm
  clear hxm
  refine hK.out _ _ (by exact trivial) (fun hHeld => ?_)
  clear hK K
  try simp only [Act.put, List.getElem_toArray, List.getElem_cons_zero, List.getElem_cons_succ, List.setIfInBounds_toArray, List.set_cons_zero, List.set_cons_succ]
  refine wpAnyH_ready (rs := [7]) (by kernel_rfl) (by simp) ?_
  refine AllReadyH.cons rfl (fun K hK => ?_) AllReadyH.nil
  go_simp
  go_at_call 20
  refine (HMT.out _ xa xm xc da _ HXM.out HX.out.1 (HCD.out _ la da lc ((HB5.out.2.2.1.below (Below.refl _ _).drew).below HX.out.2) HY3.out HDA.out)).mono ?_
  rintro e w7 ⟨t, rfl, HT7⟩
  refine hK.out _ _ (by exact trivial) (fun hHeld => ?_)
  clear hK K
  try simp only [Act.put, List.getElem_toArray, List.getElem_cons_zero, List.getElem_cons_succ, List.setIfInBounds_toArray, List.set_cons_zero, List.set_cons_succ]
  refine wpAnyH_take (i := 8) (oi := _) (v := ?_) rfl (by kernel_rfl) (by kernel_rfl) (by kernel_rfl) (fun _ _ _ h => h) (Or.inl ⟨by rfl, ?_⟩) (by assumption) ?_
  rotate_left
  · (intro w' hSw; (try dsimp only at hSw); go_simp; all_goals with_reducible rfl)
  try simp only [Act.put, List.getElem_toArray, List.getElem_cons_zero, List.getElem_cons_succ, List.setIfInBounds_toArray, List.set_cons_zero, List.set_cons_succ]
  refine wpAnyH_take (i := 9) (oi := _) (v := ?_) rfl (by kernel_rfl) (by kernel_rfl) (by kernel_rfl) (fun _ _ _ h => h) (Or.inl ⟨by rfl, ?_⟩) (by assumption) ?_
  rotate_left
  · (intro w' hSw; (try dsimp only at hSw); go_simp; all_goals with_reducible rfl)
  try simp only [Act.put, List.getElem_toArray, List.getElem_cons_zero, List.getElem_cons_succ, List.setIfInBounds_toArray, List.set_cons_zero, List.set_cons_succ]
  refine wpAnyH_take (i := 10) (oi := _) (v := ?_) rfl (by kernel_rfl) (by kernel_rfl) (by kernel_rfl) (fun _ _ _ h => h) (Or.inl ⟨by rfl, ?_⟩) (by assumption) ?_
  rotate_left
  · (intro w' hSw; (try dsimp only at hSw); go_simp; all_goals with_reducible rfl)
  try simp only [Act.put, List.getElem_toArray, List.getElem_cons_zero, List.getElem_cons_succ, List.setIfInBounds_toArray, List.set_cons_zero, List.set_cons_succ]
  refine wpAnyH_take (i := 11) (oi := _) (v := ?_) rfl (by kernel_rfl) (by kernel_rfl) (by kernel_rfl) (fun _ _ _ h => h) (Or.inl ⟨by rfl, ?_⟩) (by assumption) ?_
  rotate_left
  · (intro w' hSw; (try dsimp only at hSw); go_simp; all_goals with_reducible rfl)
  try simp only [Act.put, List.getElem_toArray, List.getElem_cons_zero, List.getElem_cons_succ, List.setIfInBounds_toArray, List.set_cons_zero, List.set_cons_succ]
  refine wpAnyH_take (i := 12) (oi := _) (v := ?_) rfl (by kernel_rfl) (by kernel_rfl) (by kernel_rfl) (fun _ _ _ h => h) (Or.inl ⟨by rfl, ?_⟩) (by assumption) ?_
  rotate_left
  · (intro w' hSw; (try dsimp only at hSw); go_simp; all_goals with_reducible rfl)
  try simp only [Act.put, List.getElem_toArray, List.getElem_cons_zero, List.getElem_cons_succ, List.setIfInBounds_toArray, List.set_cons_zero, List.set_cons_succ]
  refine wpAnyH_done (by kernel_rfl) ?_ _
  have HA : Hid (AgS W w7 la ba B cs s t w4.heap.size w5.heap.size S T) := Lib.hid (by
    obtain ⟨⟨⟨Q, q1, q2⟩, _, _⟩, hb7⟩ := HT7.out
    obtain ⟨g1, g2, g3, ⟨P, p1, p2⟩, g5, g6⟩ := HB5.out
    have hb6 : Below w5.heap.size w5 w7 := (Below.refl _ _).drew.trans ((show Below w5.heap.size w5.drew w6 from HX.out.2).trans (hb7.mono (show w5.heap.size ≤ w6.heap.size from HX.out.2.size)))
    have hz6 : w5.heap.size ≤ w6.heap.size := HX.out.2.size
    exact ⟨g1.trans (hb6.mono g1.size), g3.below hb6, g2.below hb6, ⟨P, p1.below hb6, p2⟩, ⟨Q, q1, fun q hq => ⟨by have := (q2 q hq).1; omega, (q2 q hq).2.1⟩⟩, g5, g6, hb6.size⟩)
  obtain ⟨n4, hn4⟩ : ∃ n4, n4 = w4.heap.size := ⟨_, rfl⟩
  obtain ⟨n5, hn5⟩ : ∃ n5, n5 = w5.heap.size := ⟨_, rfl⟩
  rw [← hn4, ← hn5] at HA
  clear hn4 hn5 HB5 HT7 HX HXM H5 HDA HY3 HSL HMT HBS HCD hsl
  go_wp2_with fail
  refine (HTL.out w7 t (by obtain ⟨Q, q, _⟩ := HA.out.new; exact ⟨Q, q⟩)).mono ?_
  rintro e w8 ⟨rfl, rfl⟩
  go_wp2_with fail
  refine (HTA.out _ t (by obtain ⟨Q, q, _⟩ := HA.out.new; exact ⟨Q, q⟩)).mono ?_
  rintro e w9 ⟨rfl, hb9⟩
  have HA9 := Lib.hid (HA.out.below hb9)
  clear hb9 HA HTL HTA
  go_wp2_with fail
  refine (HSA.out w9 s (by obtain ⟨P, p, _⟩ := HA9.out.old; exact ⟨P, p⟩)).mono ?_
  rintro e w10 ⟨rfl, hb10⟩
  have HA10 := Lib.hid (HA9.out.below hb10)
  clear hb10 HA9 HSA
  go_wp2_with fail
  go_loopw [13] (fun i wr => ∃ q : Nat, k ≤ q ∧ q ≤ len + 1 ∧ i = .int .i64 (q : Int) ∧ Hid (AgS W wr la ba B cs s t n4 n5 S T)) (fun i _ => len + 1 - (intOf i).toNat)
  case atStart => exact ⟨k, Nat.le_refl _, by omega, rfl, HA10⟩
  case round =>
    obtain ⟨q, hq1, hq2, rfl, hst⟩ := hrel
    clear HA10
    by_cases hlt : q ≤ len
    · have hltI : (q : Int) ≤ (len : Int) := by omega
      clear HVA HV1 HV2
      go_wp2_with fail
      refine (HAT.out wr ba bl bc la lc q HBLEN.out hst.out.base hst.out.list).mono ?_
      rintro e w11 ⟨b, rfl, HM11⟩
      have HA11 : Hid (AgS W w11 la ba B cs s t n4 n5 S T) := Lib.hid (hst.out.below HM11.out.2.2)
      clear hst HAT
      go_wp2_with fail
      refine (HSH.out w11 t b q hq1 hlt (by obtain ⟨Q, q, _⟩ := HA11.out.new; exact ⟨Q, q⟩) ⟨_, HM11.out⟩).mono ?_
      rintro e w12 ⟨rfl, HB12⟩
      have HA12 := Lib.hid (HA11.out.below HB12.out)
      clear HM11 HA11 HB12 HSH
      go_wp2_with fail
      go_roundw
      case rel => exact ⟨q + 1, by omega, by omega, by go_num, HA12⟩
      case measure => simp [intOf]; omega
    · obtain rfl : q = len + 1 := by omega
      have hge : ¬ (((len + 1 : Nat) : Int) ≤ (len : Int)) := by omega
      clear HAT HSH
      go_wp2_with fail
      refine (HVA.out wr la ba s t n4 n5 hst.out).mono ?_
      rintro e w11 ⟨rfl, HV⟩
      clear HVA hst
      go_wp2_with fail
      refine (HV1.out w11 s HV.out.2.1).mono ?_
      rintro e w12 ⟨rfl, hb12⟩
      have HT12 : Hid (Below W.heap.size W w12 ∧ ∃ Q, StoreAt Q w12 t T) := Lib.hid ⟨HV.out.1.trans (hb12.mono HV.out.1.size), by obtain ⟨Q, q⟩ := HV.out.2.2; exact ⟨Q, q.below hb12⟩⟩
      clear hb12 HV HV1
      go_wp2_with fail
      refine (HV2.out w12 t HT12.out.2).mono ?_
      rintro e w13 ⟨rfl, hb13⟩
      have HBL := Lib.hid (HT12.out.1.trans (hb13.mono HT12.out.1.size))
      clear hb13 HT12 HV2
      go_wp2
      go_ret
      exact ⟨rfl, HBL.out⟩

theorem walk_out {w : World} (a0 : Option Addr) (len0 cap0 : Nat) (a : Option Addr) (len cap : Nat) (h : 30 < len) (at_ : Int) :
    Calls Try.prog 6 #[.slice a0 len0 cap0, .slice a len cap, .int .i64 at_] w fun e W' => e = .returned (.bool true) ∧ Below w.heap.size w W' := by
  have hfew : decide ((len : Int) ≤ 30) = false := decide_eq_false (by omega)
  go_enter Try.func6, Try.ntmps6
  go_wp2_with fail
  refine (head_any _).mono ?_
  rintro e w1 ⟨rfl, hb1⟩
  have HB1 := Lib.hid hb1
  clear hb1
  go_wp2_with fail
  refine (few_any _ _ _ _).mono ?_
  rintro e w1' ⟨rfl, rfl⟩
  rw [hfew]
  go_wp2
  first | exact ⟨rfl, HB1.out⟩ | (go_ret; exact ⟨rfl, HB1.out⟩)

theorem walk {w : World} (a0 : Option Addr) (len0 cap0 : Nat) (h0 : ∃ ws, WrsCame w a0 len0 cap0 ws ∧ SizedW ws) (a : Option Addr) (len cap : Nat) (h : ∃ wss, WwsCame w a len wss) (at_ : Int) (_ : (Lit.int .i64 at_).wf = true) :
    Calls Try.prog 6 #[.slice a0 len0 cap0, .slice a len cap, .int .i64 at_] w fun e W' => e = .returned (.bool true) ∧ Below w.heap.size w W' := by
  by_cases hl : 30 < len
  · exact walk_out a0 len0 cap0 a len cap hl at_
  · obtain ⟨bs, hB, hsB⟩ := h0
    obtain ⟨wss, h⟩ := h
    exact walk_main a0 len0 cap0 bs hB hsB a len cap wss h (by omega) at_

end Go.Proofs.Ytcncoppnkodhmaa.storeAgain
