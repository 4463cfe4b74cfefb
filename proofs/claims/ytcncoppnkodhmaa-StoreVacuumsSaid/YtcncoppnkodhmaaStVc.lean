/-
  StoreVacuums: its walk.
-/
import Derived.Test.YtcncoppnkodhmaaStVcM
import Derived.Test.YtcncoppnkodhmaaIsRow
namespace Go.Proofs.Ytcncoppnkodhmaa.storeVacuums
open Go.RowKit Go.Proofs.Ytcncoppnkodhmaa.tC Go.Proofs.Ytcncoppnkodhmaa.sT Go.Proofs.Ytcncoppnkodhmaa.storeFrees

set_option linter.unusedVariables false
set_option linter.unusedSimpArgs false

/-- how many writes some commits have -/
def sumW (D : List CmM) (y : Nat) : Nat := ((D.take y).map fun c => c.ws.length).sum
theorem sumW_zero (D : List CmM) : sumW D 0 = 0 := by unfold sumW; simp
theorem sumW_next {D : List CmM} {y : Nat} (h : y < D.length) : sumW D (y + 1) = sumW D y + (D[y]).ws.length := by
  unfold sumW
  rw [List.take_succ_eq_append_getElem h, List.map_append, List.sum_append]
  simp
theorem sumW_all (D : List CmM) : (D.map fun c => c.ws.length).sum = sumW D D.length := by unfold sumW; rw [List.take_length]
theorem allW_len : ∀ D : List CmM, (allW D).length = (D.map fun c => c.ws.length).sum
  | [] => rfl
  | c :: r => by
    have := allW_len r
    unfold allW at this ⊢
    rw [List.flatMap_cons, List.length_append, this, List.map_cons, List.sum_cons]
theorem sumW_le (D : List CmM) (y : Nat) : sumW D y ≤ (allW D).length := by
  unfold sumW
  rw [← allW_len]
  have e : D = D.take y ++ D.drop y := (List.take_append_drop y D).symm
  have e2 : (allW D).length = (allW (D.take y)).length + (allW (D.drop y)).length := by
    rw [← List.length_append, ← allW_app, List.take_append_drop]
  omega

/-- the store between two rounds -/
def VcS (w4 : World) (s : Nat) (S : StM) (lo : Nat) (wr : World) : Prop := Below w4.heap.size w4 wr ∧ Sep w4.heap.size (fun _ => False) wr s (S.vacuum lo)
theorem VcS.below {w4 wr w' : World} {s : Nat} {S : StM} {lo : Nat} (h : VcS w4 s S lo wr) (hb : Below wr.heap.size wr w') : VcS w4 s S lo w' :=
  ⟨h.1.trans (hb.mono h.1.size), (h.2.below hb).less fun q hq => hq.elim⟩

/-- the base's map has so many names -/
theorem at_names {first : Nat} {B : List Wr} {cs : List CmM} {N : Nat} (hg : SG (madeM first B cs) N) (hcs : ∀ z (h : z < cs.length), (cs[z]).seq = (first : Int) + 1 + z) (hb1 : ∀ w ∈ B, w.gone = false) (hbr : RiseW B) {m : Nat} (hm : m ≤ cs.length) :
    ((madeM first B cs).vacuum m).versions = (atM (upTo B cs ((first + m : Nat) : Int))).length + sumW (cs.drop m) (cs.length - m) ∧ (atM (upTo B cs ((first + m : Nat) : Int))).length ≤ N := by
  have e := tell_at (base := B) hcs (seq := ((first + m : Nat) : Int)) (by omega) (by omega)
  have e2 : (atM (upTo B cs ((first + m : Nat) : Int))).length = ((madeM first B cs).look ⟨#[]⟩ ((first + m : Nat) : Int) ⟨#[]⟩).length := by rw [e, List.length_map]
  refine ⟨?_, ?_⟩
  · rw [vac_versions hg hb1 hbr hcs hm, sumW_all, List.length_drop, e2]
  · rw [e2]
    exact agB_len (n := m) hg |> fun h => by
      unfold agB at h
      rwa [base_look] at h

set_option maxHeartbeats 8000000 in
set_option maxRecDepth 100000 in
theorem walk_main {W : World} (a0 : Option Addr) (len0 cap0 : Nat) (bs : List Wr) (hB : WrsCame W a0 len0 cap0 bs) (hsB : SizedW bs) (a : Option Addr) (len cap : Nat) (wss : List (List Wr)) (h : WwsCame W a len wss) (hle : len ≤ 30) (a2 : Option Addr) (ln cap2 : Nat) (zs : List Int) (hrow : IsRow .i64 W a2 ln cap2 zs) (hl6 : ln ≤ 6) :
    Calls Try.prog 5 #[.slice a0 len0 cap0, .slice a len cap, .slice a2 ln cap2] W fun e W' => e = .returned (.bool true) ∧ Below W.heap.size W W' := by
  have hlw : wss.length = len := h.1
  have hfew : decide ((len : Int) ≤ 30) = true := decide_eq_true (by omega)
  have h6 : ((6 : Int) < (ln : Int)) = False := eq_false (by omega)
  obtain ⟨B, hBe⟩ : ∃ B, B = baseB bs := ⟨_, rfl⟩
  obtain ⟨cs, hcs⟩ : ∃ cs, cs = listC (((0 : Nat) : Int) + 1) wss := ⟨_, rfl⟩
  have hcl : cs.length = len := by rw [hcs, listC_len, hlw]
  have hin : AgIn 0 B cs 0 := by rw [hBe, hcs]; exact ag_in bs wss (by omega)
  obtain ⟨S, hS⟩ : ∃ S, S = madeM 0 B cs := ⟨_, rfl⟩
  have hsg : SG S 500 := by rw [hS, hBe, hcs]; exact pre_sg (by omega) bs wss (by omega)
  obtain ⟨sl1, sl2⟩ := madeM_low 0 B cs
  rw [← hS] at sl1 sl2
  have hkeyB : ∀ w ∈ B, w.key.size ≤ 400 := fun w hw => by rw [hBe] at hw; have := (baseB_ok bs w hw).2.1; omega
  have hkeyC : ∀ c ∈ cs, ∀ w ∈ c.ws, w.key.size ≤ 400 := fun c hc w hw => (isR_size (hin.okC c hc w hw)).1
  have hkS : ∀ p ∈ S.keys, p.1.size ≤ 400 := by rw [hS]; exact key_made _ _ hkeyB _ hkeyC
  have hv1 : ∀ lo, ((S.vacuum lo).low : Int) = (lo : Int) := fun lo => by show ((S.low + lo : Nat) : Int) = _; rw [sl1]; omega
  have hvc : ∀ lo, (S.vacuum lo).cms.length = len - lo := fun lo => by show (S.cms.drop lo).length = _; rw [List.length_drop, sl2, hcl]
  have hv2 : ∀ lo, lo ≤ len → ((S.vacuum lo).last : Int) = (len : Int) := fun lo hlo => by have h1 := hv1 lo; have h2 := hvc lo; unfold StM.last; omega
  have hvg : ∀ lo, lo ≤ len → SG (S.vacuum lo) 500 := fun lo hlo => hsg.vacuum (by rw [sl2, hcl]; exact hlo)
  have hvv : ∀ lo n, lo + n ≤ len → (S.vacuum lo).vacuum n = S.vacuum (lo + n) := fun lo n hn => by
    rw [hS] at hsg ⊢
    exact vac_vac hsg hin.seq (by rw [hcl]; exact hn)
  have hvs : ∀ m, m ≤ len → (S.vacuum m).versions = (atM (upTo B cs (m : Int))).length + sumW (cs.drop m) (len - m) ∧ (atM (upTo B cs (m : Int))).length ≤ 500 := fun m hm => by
    rw [hS] at hsg ⊢
    have := at_names hsg hin.seq (by rw [hBe]; exact baseB_gone bs) (by rw [hBe]; exact baseB_rise bs) (m := m) (by rw [hcl]; exact hm)
    rwa [hcl, show (((0 + m : Nat)) : Int) = (m : Int) by omega] at this
  have hws : (allW cs).length ≤ 500 := by have := hsg.ws; rwa [sl2] at this
  have HSO := Lib.hid (pre_some hB hsB)
  have HTH := Lib.hid (pre_there bs)
  have HLI := Lib.hid (pre_list cap h hle 0 (by omega))
  have HMA := Lib.hid (pre_made (first := 0) (by omega) bs wss (by omega))
  rw [← hBe] at HTH HMA
  rw [← hcs] at HLI HMA
  rw [← hS] at HMA
  rw [hlw] at HMA
  have HAT : Hid (∀ wr ba bl bc la lc (q : Nat), bl = B.length → WrsIs wr ba B → CIs wr la cs → Calls Try.prog 23 #[.slice ba bl bc, .slice la len lc, .int .i64 (q : Int)] wr fun e w2 => ∃ b, e = .returned (.map (some b)) ∧ Hid (AtI wr b (upTo B cs (q : Int)) w2)) := Lib.hid fun wr ba bl bc la lc q hbl hb hc => by
    subst hbl
    have := at_map (bc := bc) (cap := lc) hb hc (q : Int) (by rw [hBe]; exact baseB_gone bs) (fun w hw => by have := hkeyB w hw; unfold maxLen; omega) (fun c hc w hw => by have := hkeyC c hc w hw; unfold maxLen; omega) (fun c hc => by have := listC_12 (((0 : Nat) : Int) + 1) wss c (by rw [← hcs]; exact hc); omega) (by have := baseB_len bs; rw [hBe]; omega) (by omega)
    rw [hcl] at this
    exact this
  have HSH : Hid (∀ w4 wr s b (lo q : Nat), lo ≤ q → q ≤ len → VcS w4 s S lo wr → (∃ W0, AtI W0 b (upTo B cs (q : Int)) wr) → Calls Try.prog 24 #[.pointer (some ⟨s, 0, none⟩), .map (some b), .int .i64 (q : Int)] wr fun e w2 => e = .returned (.bool true) ∧ Hid (Below wr.heap.size wr w2)) := Lib.hid fun w4 wr s b lo q q1 q2 hst ⟨W0, ⟨n, _, hm⟩, _, _⟩ => by
    obtain ⟨P, hP⟩ := hst.2.at_
    have e1 := tell_at (base := B) hin.seq (seq := (q : Int)) (by omega) (by rw [hcl]; omega)
    rw [← hS] at e1
    have e2 := vac_look hsg (n := lo) (by rw [sl2, hcl]; omega) (sq := (q : Int)) (by rw [sl1]; omega) (by have := hv2 0 (by omega); rw [vac_zero] at this; omega)
    rw [e1, ← e2] at hm
    refine (shows_any hP (hvg lo (by omega)) (by omega) (key_vacuum hkS lo) (q : Int) ?_ hm).mono ?_
    · unfold StM.tells
      rw [hv1, hv2 lo (by omega), Bool.and_eq_true, decide_eq_true_eq, decide_eq_true_eq]
      omega
    · rintro e w2 ⟨rfl, hb⟩
      exact ⟨rfl, Lib.hid hb⟩
  have HSI : Hid (∀ w4 wr s (lo q : Nat), lo ≤ q → q ≤ len → VcS w4 s S lo wr → Calls Try.prog 32 #[.pointer (some ⟨s, 0, none⟩), .int .i64 (q : Int)] wr fun e w2 => ∃ ga gc, e = .returned (.tuple #[.slice ga (len - q) gc, .int .i64 0]) ∧ Hid (Below wr.heap.size wr w2)) := Lib.hid fun w4 wr s lo q q1 q2 hst => by
    obtain ⟨P, hP⟩ := hst.2.at_
    refine (since_any hP (hvg lo (by omega)) (by omega) (q : Int)).mono ?_
    rintro e w2 ⟨hb, hcase⟩
    rw [hv1, hv2 lo (by omega), hvc] at hcase
    rcases hcase with ⟨h1, _⟩ | ⟨_, h1, _⟩ | ⟨k, e1, e2, ga, gc, e3, _⟩
    · exact absurd h1 (by omega)
    · exact absurd h1 (by omega)
    · have hlk := hv1 lo
      have e4 : len - lo - k = len - q := by omega
      rw [e4] at e3
      exact ⟨ga, gc, e3, Lib.hid hb⟩
  have HS0 : Hid (∀ w4 wr s (lo : Nat), lo ≤ len → VcS w4 s S lo wr → Calls Try.prog 32 #[.pointer (some ⟨s, 0, none⟩), .int .i64 ((lo : Int) - 1)] wr fun e w2 => e = .returned (.tuple #[.slice none 0 0, .int .i64 12]) ∧ Hid (Below wr.heap.size wr w2)) := Lib.hid fun w4 wr s lo q1 hst => by
    obtain ⟨P, hP⟩ := hst.2.at_
    refine (since_any hP (hvg lo (by omega)) (by omega) ((lo : Int) - 1)).mono ?_
    rintro e w2 ⟨hb, hcase⟩
    have hlk := hv1 lo
    rcases hcase with ⟨_, h1⟩ | ⟨h1, _, _⟩ | ⟨k, e1, _⟩
    · exact ⟨h1, Lib.hid hb⟩
    · exact absurd h1 (by omega)
    · exact absurd e1 (by omega)
  have HLO : Hid (∀ w4 wr s (lo : Nat), VcS w4 s S lo wr → Calls Try.prog 21 #[.pointer (some ⟨s, 0, none⟩)] wr fun e w2 => e = .returned (.int .i64 (lo : Int)) ∧ wr = w2) := Lib.hid fun w4 wr s lo hst => by
    obtain ⟨P, hP⟩ := hst.2.at_
    have := low_any hP
    rwa [hv1] at this
  have HLA : Hid (∀ w4 wr s (lo : Nat), lo ≤ len → VcS w4 s S lo wr → Calls Try.prog 22 #[.pointer (some ⟨s, 0, none⟩)] wr fun e w2 => e = .returned (.int .i64 (len : Int)) ∧ Hid (Below wr.heap.size wr w2)) := Lib.hid fun w4 wr s lo hlo hst => by
    obtain ⟨P, hP⟩ := hst.2.at_
    have := stLast_any hP
    rw [hv2 lo hlo] at this
    exact this.mono fun e w2 ⟨h1, h2⟩ => ⟨h1, Lib.hid h2⟩
  have HVE : Hid (∀ w4 wr s (m : Nat), m ≤ len → VcS w4 s S m wr → Calls Try.prog 31 #[.pointer (some ⟨s, 0, none⟩)] wr fun e w2 => e = .returned (.int .i64 (((atM (upTo B cs (m : Int))).length + sumW (cs.drop m) (len - m) : Nat) : Int)) ∧ Hid (Below wr.heap.size wr w2)) := Lib.hid fun w4 wr s m hm hst => by
    obtain ⟨P, hP⟩ := hst.2.at_
    have := versions_any hP ((hvg m hm).good (by omega))
    rw [(hvs m hm).1] at this
    exact this.mono fun e w2 ⟨h1, h2⟩ => ⟨h1, Lib.hid h2⟩
  have HV0 : Hid (∀ w4 wr s (lo : Nat) (q : Int), lo ≤ len → (q < (lo : Int) ∨ (len : Int) < q) → VcS w4 s S lo wr → Calls Try.prog 30 #[.pointer (some ⟨s, 0, none⟩), .int .i64 q] wr fun e w2 => e = .returned (.int .i64 1) ∧ Hid (VcS w4 s S lo w2)) := Lib.hid fun w4 wr s lo q hlo hq hst => by
    refine (sep_vacuum hst.2 (hvg lo hlo) (by omega) q).mono ?_
    rintro e w2 ⟨hkept, ⟨_, rfl, h3⟩ | ⟨n, h1, h2, h3, _⟩⟩
    · exact ⟨rfl, Lib.hid ⟨hst.1.trans hkept.below, h3⟩⟩
    · exfalso
      have hlk := hv1 lo
      rw [hvc] at h3
      omega
  have HV1 : Hid (∀ w4 wr s (lo m : Nat), lo ≤ m → m ≤ len → VcS w4 s S lo wr → Calls Try.prog 30 #[.pointer (some ⟨s, 0, none⟩), .int .i64 (m : Int)] wr fun e w2 => e = .returned (.int .i64 0) ∧ Hid (VcS w4 s S m w2)) := Lib.hid fun w4 wr s lo m hlo hm hst => by
    refine (sep_vacuum hst.2 (hvg lo (by omega)) (by omega) (m : Int)).mono ?_
    rintro e w2 ⟨hkept, ⟨h1, _, _⟩ | ⟨n, h1, h2, h3, rfl, h5⟩⟩
    · exfalso
      unfold StM.tells at h1
      rw [hv1, hv2 lo (by omega), decide_eq_true (by omega : (lo : Int) ≤ (m : Int)), decide_eq_true (by omega : (m : Int) ≤ (len : Int))] at h1
      cases h1
    · have hlk := hv1 lo
      have e : lo + n = m := by omega
      rw [hvv lo n (by omega), e] at h5
      exact ⟨rfl, Lib.hid ⟨hst.1.trans hkept.below, h5⟩⟩
  have HN0 := Lib.hid fun m (hm : m ≤ len) => (hvs m hm).2
  have HSU : Hid (∀ m y, sumW (cs.drop m) y ≤ 500) := Lib.hid fun m y => by
    have h1 := sumW_le (cs.drop m) y
    have h2 := (allW_drop cs m).1
    omega
  have HCD := Lib.hid (fun (w' : World) (la da : Option Addr) (lc m : Nat) (hc : CIs w' la cs) (hl : len ≤ lc) (hda : (la = none ∧ da = none) ∨ ∃ g o o', la = some ⟨g, o, none⟩ ∧ da = some ⟨g, o', none⟩ ∧ (m < lc → o' = o + m * 3) ∧ (lc = m → o' ≤ o + m * 3)) => cis_drop hc (by rw [hcl]; exact hl) hda)
  have HDL : Hid (∀ m, (cs.drop m).length = len - m) := Lib.hid fun m => by rw [List.length_drop, hcl]
  have HS : Hid (∀ w4 w5 s, Sep w4.heap.size (fun _ => False) w5 s S → Below w4.heap.size w4 w5 → VcS w4 s S 0 w5) := Lib.hid fun w4 w5 s h1 h2 => ⟨h2, by rw [vac_zero]; exact h1⟩
  have HROW := Lib.hid hrow
  clear hB hsB h hlw hin hsg sl1 sl2 hkeyB hkeyC hkS hv1 hvc hv2 hvg hvv hvs hws hBe hcs hS hcl hrow
  go_enter Try.func5, Try.ntmps5
  go_wp2_with fail
  refine (head_any _).mono ?_
  rintro e w1 ⟨rfl, hb1⟩
  have HB1 := Lib.hid hb1
  clear hb1
  go_wp2_with fail
  refine (few_any _ _ _ _).mono ?_
  rintro e w1' ⟨rfl, rfl⟩
  rw [hfew]
  clear hfew
  go_wp2_with fail
  refine (HSO.out w1 HB1.out).mono ?_
  rintro e w2 ⟨ya, yl, yc, rfl, hyl, HY⟩
  have HYL := Lib.hid hyl
  clear hyl h6
  go_wp2_with fail
  refine (HTH.out w2 ya yl yc HYL.out HY.out.1).mono ?_
  rintro e w3 ⟨ba, bl, bc, rfl, hbl, HBB⟩
  have HB3 : Hid (Below W.heap.size W w3 ∧ WrsIs w3 ba B) := Lib.hid (by
    have h1 := HB1.out.trans (HY.out.2.mono HB1.out.size)
    exact ⟨h1.trans (HBB.out.2.mono h1.size), HBB.out.1⟩)
  have HBLEN := Lib.hid hbl
  clear HSO HTH HY HBB HB1 HYL hbl
  go_wp2_with fail
  refine (HLI.out w3 HB3.out.1).mono ?_
  rintro e w4 ⟨la, lc, rfl, HL⟩
  have HB4 : Hid (Below W.heap.size W w4 ∧ WrsIs w4 ba B ∧ CIs w4 la cs ∧ LiesAt la len lc) := Lib.hid ⟨HB3.out.1.trans (HL.out.2.2.mono HB3.out.1.size), HB3.out.2.below HL.out.2.2, HL.out.1, HL.out.2.1⟩
  clear HLI HL HB3
  go_wp2_with fail
  refine (HMA.out w4 ba bl bc la lc HBLEN.out HB4.out.2.1 HB4.out.2.2.1).mono ?_
  rintro e w5 ⟨s, rfl, HM⟩
  have H0 : Hid (VcS w4 s S 0 w5) := Lib.hid (HS.out w4 w5 s HM.out.1 HM.out.2)
  clear HMA HM HS
  go_wp2_with fail
  go_loopw [11, 49] (fun lv cv wr => ∃ z lo : Nat, z ≤ ln ∧ lo ≤ len ∧ lv = .int .i64 (lo : Int) ∧ cv = .int .i64 (z : Int) ∧ Hid (VcS w4 s S lo wr)) (fun _ cv _ => ln - (intOf cv).toNat)
  case atStart => exact ⟨0, 0, Nat.zero_le _, Nat.zero_le _, rfl, rfl, H0⟩
  case round =>
    obtain ⟨z, lo, hz, hlo, rfl, rfl, hst⟩ := hrel
    clear H0
    obtain ⟨wo, hwo⟩ : ∃ wo, wo = wr := ⟨_, rfl⟩
    subst hwo
    by_cases hzl : z < ln
    · have hzI : (z : Int) < (ln : Int) := by omega
      obtain ⟨x, rfl, hx⟩ : ∃ x, a2 = some x ∧ wo.cell? (x.add z) = some (.int .i64 (zs.getD z 0)) := by
        rcases HROW.out with ⟨_, h0, _⟩ | ⟨x, hx, h1, h2, h3, h4, _⟩
        · omega
        · have hbW : Below W.heap.size W wo := HB4.out.1.trans (hst.out.1.mono HB4.out.1.size)
          exact ⟨x, hx, (hbW.cell (World.block_lt_of_cell? W _ (h4 z (by omega)))).trans (h4 z (by omega))⟩
      generalize zs.getD z 0 = qv at hx
      by_cases hq1 : qv < (lo : Int)
      · have hq1' : ((lo : Int) ≤ qv) = False := eq_false (by omega)
        have HQ := Lib.hid hq1
        clear hq1
        go_wp2_with fail
        refine (HV0.out w4 wo s lo qv hlo (.inl HQ.out) hst.out).mono ?_
        rintro e w6 ⟨rfl, H6⟩
        clear hst hx HQ
        go_wp2_with fail
        clear hq1'
        go_loopw [19] (fun iv wr => ∃ q : Nat, lo ≤ q ∧ q ≤ len + 1 ∧ iv = .int .i64 (q : Int) ∧ Hid (VcS w4 s S lo wr)) (fun iv _ => len + 1 - (intOf iv).toNat)
        case atStart => exact ⟨lo, Nat.le_refl _, by omega, rfl, H6⟩
        case round =>
          obtain ⟨q, hq1, hq2, rfl, hst⟩ := hrel
          clear H6
          by_cases hlt : q ≤ len
          · have hltI : (q : Int) ≤ (len : Int) := by omega
            go_wp2_with fail
            refine (HAT.out wr ba bl bc la lc q HBLEN.out (HB4.out.2.1.below hst.out.1) (HB4.out.2.2.1.below hst.out.1)).mono ?_
            rintro e w11 ⟨b, rfl, HM⟩
            have H11 : Hid (VcS w4 s S lo w11) := Lib.hid (hst.out.below HM.out.2.2)
            clear hst
            go_wp2_with fail
            refine (HSH.out w4 w11 s b lo q hq1 hlt H11.out ⟨_, HM.out⟩).mono ?_
            rintro e w12 ⟨rfl, HB12⟩
            have H12 := Lib.hid (H11.out.below HB12.out)
            clear HM H11 HB12
            go_wp2_with fail
            refine (HSI.out w4 w12 s lo q hq1 hlt H12.out).mono ?_
            rintro e w13 ⟨ga, gc, rfl, HB13⟩
            have H13 := Lib.hid (H12.out.below HB13.out)
            clear H12 HB13
            have hsub : IntKind.i64.wrap ((len : Int) - (q : Int)) = ((len - q : Nat) : Int) := by rw [IntKind.wrap_i64]; omega
            go_wp2_with fail
            go_roundw
            case rel => exact ⟨q + 1, by omega, by omega, by go_num, H13⟩
            case measure => simp [intOf]; omega
          · obtain rfl : q = len + 1 := by omega
            have hge : ¬ (((len + 1 : Nat) : Int) ≤ (len : Int)) := by omega
            have hsub : IntKind.i64.wrap ((lo : Int) - 1) = (lo : Int) - 1 := by rw [IntKind.wrap_i64]; omega
            go_wp2_with fail
            refine (HS0.out w4 wr s lo hlo hst.out).mono ?_
            rintro e w11 ⟨rfl, HB11⟩
            have H11 := Lib.hid (hst.out.below HB11.out)
            clear hst HB11
            go_wp2_with fail
            refine (HLO.out w4 w11 s lo H11.out).mono ?_
            rintro e w12 ⟨rfl, rfl⟩
            go_wp2_with fail
            refine (HLA.out w4 _ s lo hlo H11.out).mono ?_
            rintro e w13 ⟨rfl, HB13⟩
            have H13 := Lib.hid (H11.out.below HB13.out)
            clear H11 HB13
            go_wp2_with fail
            go_roundw
            case rel => exact ⟨z + 1, lo, by omega, hlo, rfl, by go_num, H13⟩
            case measure => simp [intOf]; omega
      · by_cases hq2 : (len : Int) < qv
        · have hq1' : (lo : Int) ≤ qv := by omega
          have hq2' : (qv ≤ (len : Int)) = False := eq_false (by omega)
          have HQ := Lib.hid hq2
          clear hq1 hq2
          go_wp2_with fail
          refine (HV0.out w4 wo s lo qv hlo (.inr HQ.out) hst.out).mono ?_
          rintro e w6 ⟨rfl, H6⟩
          clear hst hx HQ
          go_wp2_with fail
          clear hq1' hq2'
          go_loopw [19] (fun iv wr => ∃ q : Nat, lo ≤ q ∧ q ≤ len + 1 ∧ iv = .int .i64 (q : Int) ∧ Hid (VcS w4 s S lo wr)) (fun iv _ => len + 1 - (intOf iv).toNat)
          case atStart => exact ⟨lo, Nat.le_refl _, by omega, rfl, H6⟩
          case round =>
            obtain ⟨q, hq1, hq2, rfl, hst⟩ := hrel
            clear H6
            by_cases hlt : q ≤ len
            · have hltI : (q : Int) ≤ (len : Int) := by omega
              go_wp2_with fail
              refine (HAT.out wr ba bl bc la lc q HBLEN.out (HB4.out.2.1.below hst.out.1) (HB4.out.2.2.1.below hst.out.1)).mono ?_
              rintro e w11 ⟨b, rfl, HM⟩
              have H11 : Hid (VcS w4 s S lo w11) := Lib.hid (hst.out.below HM.out.2.2)
              clear hst
              go_wp2_with fail
              refine (HSH.out w4 w11 s b lo q hq1 hlt H11.out ⟨_, HM.out⟩).mono ?_
              rintro e w12 ⟨rfl, HB12⟩
              have H12 := Lib.hid (H11.out.below HB12.out)
              clear HM H11 HB12
              go_wp2_with fail
              refine (HSI.out w4 w12 s lo q hq1 hlt H12.out).mono ?_
              rintro e w13 ⟨ga, gc, rfl, HB13⟩
              have H13 := Lib.hid (H12.out.below HB13.out)
              clear H12 HB13
              have hsub : IntKind.i64.wrap ((len : Int) - (q : Int)) = ((len - q : Nat) : Int) := by rw [IntKind.wrap_i64]; omega
              go_wp2_with fail
              go_roundw
              case rel => exact ⟨q + 1, by omega, by omega, by go_num, H13⟩
              case measure => simp [intOf]; omega
            · obtain rfl : q = len + 1 := by omega
              have hge : ¬ (((len + 1 : Nat) : Int) ≤ (len : Int)) := by omega
              have hsub : IntKind.i64.wrap ((lo : Int) - 1) = (lo : Int) - 1 := by rw [IntKind.wrap_i64]; omega
              go_wp2_with fail
              refine (HS0.out w4 wr s lo hlo hst.out).mono ?_
              rintro e w11 ⟨rfl, HB11⟩
              have H11 := Lib.hid (hst.out.below HB11.out)
              clear hst HB11
              go_wp2_with fail
              refine (HLO.out w4 w11 s lo H11.out).mono ?_
              rintro e w12 ⟨rfl, rfl⟩
              go_wp2_with fail
              refine (HLA.out w4 _ s lo hlo H11.out).mono ?_
              rintro e w13 ⟨rfl, HB13⟩
              have H13 := Lib.hid (H11.out.below HB13.out)
              clear H11 HB13
              go_wp2_with fail
              go_roundw
              case rel => exact ⟨z + 1, lo, by omega, hlo, rfl, by go_num, H13⟩
              case measure => simp [intOf]; omega
        · obtain ⟨m, rfl⟩ : ∃ m : Nat, qv = (m : Int) := ⟨qv.toNat, by omega⟩
          have hlm : lo ≤ m := by omega
          have hml : m ≤ len := by omega
          have hq1' : (lo : Int) ≤ (m : Int) := by omega
          have hq2' : (m : Int) ≤ (len : Int) := by omega
          clear hq1 hq2
          go_wp2_with fail
          refine (HV1.out w4 wo s lo m hlm hml hst.out).mono ?_
          rintro e w6 ⟨rfl, H6⟩
          clear hst hx
          go_wp2_with fail
          clear hq1' hq2'
          refine (HAT.out w6 ba bl bc la lc m HBLEN.out (HB4.out.2.1.below H6.out.1) (HB4.out.2.2.1.below H6.out.1)).mono ?_
          rintro e w7 ⟨b, rfl, HM⟩
          have H7 : Hid (VcS w4 s S m w7) := Lib.hid (H6.out.below HM.out.2.2)
          have hlen : ∀ ty, (Builtin.len_ #[33] ty #[.map (some b)]).run Try.prog w7 = .ok (.int .i64 ((atM (upTo B cs (m : Int))).length : Int)) w7 := fun ty => by
            obtain ⟨⟨n, _, hm⟩, _, _⟩ := HM.out
            have h1 := World.ownsMap.len (P := Try.prog) (show w7.ownsMap Try.prog 9 RV b n (dm (toF (atM (upTo B cs (m : Int))))) from hm) Try.underlying33 ty
            rwa [toF_length_map] at h1
          have HN := Lib.hid (HN0.out m hml)
          have HV2 := Lib.hid (HVE.out w4 · s m hml)
          obtain ⟨n0, hn0⟩ : ∃ n0, n0 = (atM (upTo B cs (m : Int))).length := ⟨_, rfl⟩
          rw [← hn0] at hlen HN HV2
          have hn5 := HN.out
          have HSUM := Lib.hid (HSU.out m)
          have HDN := Lib.hid (HDL.out m)
          obtain ⟨y1, y2, y3, y4⟩ := HB4.out.2.2.2
          obtain ⟨_, da, hsl, hda⟩ := cm_slice la len lc m y1 y2 hml y3 y4
          have HD : Hid (CIs w4 da (cs.drop m)) := Lib.hid (HCD.out w4 la da lc m HB4.out.2.2.1 y3 hda)
          obtain ⟨D, hD⟩ : ∃ D, D = cs.drop m := ⟨_, rfl⟩
          rw [← hD] at HD HV2 HSUM HDN
          clear hn0 hD y1 y2 y3 y4 hda HM H6 HN
          obtain ⟨dl, hdl⟩ : ∃ dl, dl = len - m := ⟨_, rfl⟩
          rw [← hdl] at hsl HDN HV2
          have hdl30 : dl ≤ 30 := by omega
          have HDL2 := Lib.hid hdl
          clear hdl
          go_wp2_with fail
          clear hlen hsl
          go_loopw [16, 88] (fun nv cv wr => ∃ y : Nat, y ≤ dl ∧ nv = .int .i64 ((n0 + sumW D y : Nat) : Int) ∧ cv = .int .i64 (y : Int) ∧ Hid (VcS w4 s S m wr)) (fun _ cv _ => dl - (intOf cv).toNat)
          case atStart => exact ⟨0, Nat.zero_le _, by rw [sumW_zero]; rfl, rfl, H7⟩
          case round =>
            obtain ⟨y, hy, rfl, rfl, hst⟩ := hrel
            clear H7
            obtain ⟨v, hv⟩ : ∃ v, v = n0 + sumW D y := ⟨_, rfl⟩
            have HVV := Lib.hid hv
            rw [← hv]
            have hv1000 : v ≤ 1000 := by have := HSUM.out y; omega
            clear hv
            by_cases hyl : y < dl
            · have hyI : (y : Int) < (dl : Int) := by omega
              have hyD : y < D.length := by rw [HDN.out]; exact hyl
              have hnx := sumW_next hyD
              have hnb := HSUM.out (y + 1)
              rcases HD.out.below hst.out.1 with he | ⟨b2, off2, ea, hblt2, hcells⟩
              · exact absurd hyD (by rw [he]; simp)
              subst ea
              obtain ⟨m0, m1, wa, wc, m2, hwx⟩ := hcells y hyD
              clear hwx
              obtain ⟨x2, hx2⟩ : ∃ x2, x2 = D[y] := ⟨_, rfl⟩
              rw [← hx2] at m0 m1 m2 hnx
              clear hx2 hcells hblt2
              obtain ⟨sq, at_, ws⟩ := x2
              simp only at m0 m1 m2 hnx
              obtain ⟨wl, hwl⟩ : ∃ wl, wl = ws.length := ⟨_, rfl⟩
              rw [← hwl] at m2 hnx
              have hw5 : wl ≤ 500 := by omega
              have HNX : Hid (n0 + sumW D (y + 1) = v + wl) := Lib.hid (by rw [hnx, HVV.out]; omega)
              have HB8 : Hid (∀ ob, VcS w4 s S m (wr.alloc ob)) := Lib.hid fun ob => hst.out.below ((Below.refl _ _).alloc (Nat.le_refl _) _)
              clear hwl hnx hnb hyD hst HVV
              go_wp2_with fail
              go_roundw
              case rel => exact ⟨y + 1, by omega, by rw [HNX.out]; go_num, by go_num, Lib.hid (HB8.out _)⟩
              case measure => simp [intOf]; omega
            · obtain rfl : y = dl := by omega
              have hyI : ¬ ((y : Int) < (y : Int)) := by omega
              have HVS := Lib.hid (HV2.out wr hst.out)
              rw [← HVV.out] at HVS
              clear HV2 HD HSUM HVV
              go_wp2_with fail
              refine HVS.out.mono ?_
              rintro e w9 ⟨rfl, HB9⟩
              have H9 := Lib.hid (hst.out.below HB9.out)
              clear HVS HB9 hst
              go_wp2_with fail
              go_loopw [19] (fun iv wr => ∃ q : Nat, m ≤ q ∧ q ≤ len + 1 ∧ iv = .int .i64 (q : Int) ∧ Hid (VcS w4 s S m wr)) (fun iv _ => len + 1 - (intOf iv).toNat)
              case atStart => exact ⟨m, Nat.le_refl _, by omega, rfl, H9⟩
              case round =>
                obtain ⟨q, hq1, hq2, rfl, hst⟩ := hrel
                clear H9
                by_cases hlt : q ≤ len
                · have hltI : (q : Int) ≤ (len : Int) := by omega
                  go_wp2_with fail
                  refine (HAT.out wr ba bl bc la lc q HBLEN.out (HB4.out.2.1.below hst.out.1) (HB4.out.2.2.1.below hst.out.1)).mono ?_
                  rintro e w11 ⟨b, rfl, HM⟩
                  have H11 : Hid (VcS w4 s S m w11) := Lib.hid (hst.out.below HM.out.2.2)
                  clear hst
                  go_wp2_with fail
                  refine (HSH.out w4 w11 s b m q hq1 hlt H11.out ⟨_, HM.out⟩).mono ?_
                  rintro e w12 ⟨rfl, HB12⟩
                  have H12 := Lib.hid (H11.out.below HB12.out)
                  clear HM H11 HB12
                  go_wp2_with fail
                  refine (HSI.out w4 w12 s m q hq1 hlt H12.out).mono ?_
                  rintro e w13 ⟨ga, gc, rfl, HB13⟩
                  have H13 := Lib.hid (H12.out.below HB13.out)
                  clear H12 HB13
                  have hsub : IntKind.i64.wrap ((len : Int) - (q : Int)) = ((len - q : Nat) : Int) := by rw [IntKind.wrap_i64]; omega
                  go_wp2_with fail
                  go_roundw
                  case rel => exact ⟨q + 1, by omega, by omega, by go_num, H13⟩
                  case measure => simp [intOf]; omega
                · obtain rfl : q = len + 1 := by omega
                  have hge : ¬ (((len + 1 : Nat) : Int) ≤ (len : Int)) := by omega
                  have hsub : IntKind.i64.wrap ((m : Int) - 1) = (m : Int) - 1 := by rw [IntKind.wrap_i64]; omega
                  go_wp2_with fail
                  refine (HS0.out w4 wr s m hml hst.out).mono ?_
                  rintro e w11 ⟨rfl, HB11⟩
                  have H11 := Lib.hid (hst.out.below HB11.out)
                  clear hst HB11
                  go_wp2_with fail
                  refine (HLO.out w4 w11 s m H11.out).mono ?_
                  rintro e w12 ⟨rfl, rfl⟩
                  go_wp2_with fail
                  refine (HLA.out w4 _ s m hml H11.out).mono ?_
                  rintro e w13 ⟨rfl, HB13⟩
                  have H13 := Lib.hid (H11.out.below HB13.out)
                  clear H11 HB13
                  go_wp2_with fail
                  go_roundw
                  case rel => exact ⟨z + 1, m, by omega, hml, rfl, by go_num, H13⟩
                  case measure => simp [intOf]; omega
    · obtain rfl : z = ln := by omega
      have hzI : ¬ ((z : Int) < (z : Int)) := by omega
      have HBL : Hid (Below W.heap.size W wo) := Lib.hid (HB4.out.1.trans (hst.out.1.mono HB4.out.1.size))
      clear hst
      go_wp2
      first | exact ⟨rfl, HBL.out⟩ | (go_ret; exact ⟨rfl, HBL.out⟩)

theorem walk_out {w : World} (a0 : Option Addr) (len0 cap0 : Nat) (a : Option Addr) (len cap : Nat) (h : 30 < len) (a2 : Option Addr) (ln cap2 : Nat) :
    Calls Try.prog 5 #[.slice a0 len0 cap0, .slice a len cap, .slice a2 ln cap2] w fun e W' => e = .returned (.bool true) ∧ Below w.heap.size w W' := by
  have hfew : decide ((len : Int) ≤ 30) = false := decide_eq_false (by omega)
  go_enter Try.func5, Try.ntmps5
  go_wp2_with fail
  refine (head_any _).mono ?_
  rintro e w1 ⟨rfl, hb1⟩
  have HB1 := Lib.hid hb1
  clear hb1
  go_wp2_with fail
  refine (few_any _ _ _ _).mono ?_
  rintro e w1' ⟨rfl, rfl⟩
  rw [hfew]
  go_wp2
  first | exact ⟨rfl, HB1.out⟩ | (go_ret; exact ⟨rfl, HB1.out⟩)

theorem walk_six {w : World} (a0 : Option Addr) (len0 cap0 : Nat) (a : Option Addr) (len cap : Nat) (h : len ≤ 30) (a2 : Option Addr) (ln cap2 : Nat) (h6 : 6 < ln) :
    Calls Try.prog 5 #[.slice a0 len0 cap0, .slice a len cap, .slice a2 ln cap2] w fun e W' => e = .returned (.bool true) ∧ Below w.heap.size w W' := by
  have hfew : decide ((len : Int) ≤ 30) = true := decide_eq_true (by omega)
  have h6' : (6 : Int) < (ln : Int) := by omega
  go_enter Try.func5, Try.ntmps5
  go_wp2_with fail
  refine (head_any _).mono ?_
  rintro e w1 ⟨rfl, hb1⟩
  have HB1 := Lib.hid hb1
  clear hb1
  go_wp2_with fail
  refine (few_any _ _ _ _).mono ?_
  rintro e w1' ⟨rfl, rfl⟩
  rw [hfew]
  go_wp2
  first | exact ⟨rfl, HB1.out⟩ | (go_ret; exact ⟨rfl, HB1.out⟩)

theorem walk {w : World} (a0 : Option Addr) (len0 cap0 : Nat) (h0 : ∃ ws, WrsCame w a0 len0 cap0 ws ∧ SizedW ws) (a : Option Addr) (len cap : Nat) (h : ∃ wss, WwsCame w a len wss) (a2 : Option Addr) (ln cap2 : Nat) (zs : List Int) (hrow : IsRow .i64 w a2 ln cap2 zs) :
    Calls Try.prog 5 #[.slice a0 len0 cap0, .slice a len cap, .slice a2 ln cap2] w fun e W' => e = .returned (.bool true) ∧ Below w.heap.size w W' := by
  by_cases hl : 30 < len
  · exact walk_out a0 len0 cap0 a len cap hl a2 ln cap2
  · by_cases h6 : 6 < ln
    · exact walk_six a0 len0 cap0 a len cap (by omega) a2 ln cap2 h6
    · obtain ⟨bs, hB, hsB⟩ := h0
      obtain ⟨wss, h⟩ := h
      exact walk_main a0 len0 cap0 bs hB hsB a len cap wss h (by omega) a2 ln cap2 zs hrow (by omega)

end Go.Proofs.Ytcncoppnkodhmaa.storeVacuums
