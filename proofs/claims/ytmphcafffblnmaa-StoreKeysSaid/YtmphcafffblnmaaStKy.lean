/-
  StoreKeys: the commits' writes of but one key.
-/
import Derived.Test.YtmphcafffblnmaaStKyM
import Derived.Test.YtmphcafffblnmaaStFr
namespace Go.Proofs.Ytmphcafffblnmaa.storeKeys
open Go.RowKit Go.Proofs.Ytmphcafffblnmaa.tC Go.Proofs.Ytmphcafffblnmaa.sT Go.Proofs.Ytmphcafffblnmaa.storeFrees

set_option linter.unusedVariables false
set_option linter.unusedSimpArgs false

/-- a commit that is being made -/
def KyI (e d : Nat) (W0 : World) (sq at_ : Int) (fs : List Wr) (wr : World) : Prop := e ≤ d ∧ Below e W0 wr ∧ ∃ va vc, Box wr d 43 #[.int .i64 sq, .int .i64 at_, .slice va fs.length vc] ∧ RowK 51 3 e wr (.slice va fs.length vc) fs.length (fs.flatMap wrcells)
theorem KyI.below {e d : Nat} {W0 : World} {sq at_ : Int} {fs : List Wr} {wr w4 : World} (h : KyI e d W0 sq at_ fs wr) (he : e ≤ wr.heap.size) (hb : Below wr.heap.size wr w4) : KyI e d W0 sq at_ fs w4 := by
  obtain ⟨h1, h2, va, vc, h3, h4⟩ := h
  exact ⟨h1, h2.trans (hb.mono he), va, vc, (hb.block d h3.lt).trans h3, h4.below hb⟩

theorem ky_add {e d : Nat} {W0 : World} {sq at_ : Int} {fs : List Wr} {wr w4 : World} (h : KyI e d W0 sq at_ fs wr) (he : e ≤ W0.heap.size) (hb : Below wr.heap.size wr w4) (hl : fs.length ≤ 1000000) (y : Wr) :
    ∃ va vc, w4.cell? ⟨d, 2, none⟩ = some (.slice va fs.length vc) ∧ ∃ a2 c2 W2, (Builtin.append_ #[22, 22] 22 #[.slice va fs.length vc, .slice (some ⟨w4.heap.size, 0, none⟩) 1 1]).run Try.prog (w4.alloc (.cells #[.string y.key, .string y.val, .bool y.gone] 51)) = .ok (.slice a2 (fs.length + 1) c2) W2 ∧
      (∃ u, W2.cell? ⟨d, 2, none⟩ = some u) ∧ W2.frozen? ⟨d, 2, none⟩ = false ∧ Hid (KyI e d W0 sq at_ (fs ++ [y]) (W2.setCell ⟨d, 2, none⟩ (.slice a2 (fs.length + 1) c2))) := by
  have hsz := h.2.1.size
  obtain ⟨h1, h2, va, vc, h3, h4⟩ := h.below (by omega) hb
  have hsz2 := hb.size
  have hbA : Below w4.heap.size w4 (w4.alloc (.cells #[.string y.key, .string y.val, .bool y.gone] 51)) := (Below.refl _ _).alloc (Nat.le_refl _) _
  obtain ⟨a2, c2, W2, hrun, hrow2, hup⟩ := app_wr (B := e) (w4.alloc (.cells #[.string y.key, .string y.val, .bool y.gone] 51)) _ fs (h4.below hbA) y w4.heap.size (heap_alloc_new w4 _) hl (by rw [World.size_alloc]; omega) 22
  have hne : (Value.slice va fs.length vc).ownBlock ≠ some d := fun hq => by
    obtain ⟨arr, hbx⟩ := rowk_box h4 hq
    exact box_ne h3 hbx (by decide) rfl
  have hd2 : Box W2 d 43 #[.int .i64 sq, .int .i64 at_, .slice va fs.length vc] := (hup.1.block d (by rw [World.size_alloc]; have := h3.lt; omega) fun e => hne e.symm).trans (h3.alloc _)
  have hset : ∀ q, q ≠ d → (W2.setCell ⟨d, 2, none⟩ (.slice a2 (fs.length + 1) c2)).heap[q]? = W2.heap[q]? := fun q hq => Below.heap_setCell W2 ⟨d, 2, none⟩ _ q hq
  refine ⟨va, vc, h3.cell 2, a2, c2, W2, hrun, ⟨_, hd2.cell 2⟩, hd2.free 2, Lib.hid ⟨h1, ?_, a2, c2, ?_, ?_⟩⟩
  · have h9 : Below e W0 W2 := (h2.trans (hbA.mono (by omega))).grown hup.1 (by rw [World.size_alloc]; omega) fun q hq => (h4.lt q hq).1
    exact h9.setCell (p := ⟨d, 2, none⟩) h1 _
  · have := hd2.setSame 2 (.slice a2 (fs.length + 1) c2)
    rw [List.length_append, List.length_singleton]
    exact this
  · rw [List.length_append, List.length_singleton]
    refine hrow2.keep fun q hq => ⟨hset q fun he => ?_, (hrow2.lt q hq).1⟩
    subst he
    obtain ⟨arr, hbx⟩ := rowk_box hrow2 hq
    exact box_ne hd2 hbx (by decide) rfl

/-- between two commits -/
def OutI (W : World) (key : ByteArray) (cs : List CmM) (z : Nat) (v : Value) (wr : World) : Prop := CmsOwn W.heap.size wr v (ofC key (cs.take z)) ∧ Below W.heap.size W wr ∧ (∀ q, v.ownBlock = some q → W.heap.size ≤ q)

theorem out_step {W wr w4 : World} {key : ByteArray} {cs : List CmM} {z d : Nat} {va : Option Addr} {vc : Nat} (h : OutI W key cs z (.slice va z vc) wr) (hz : z < cs.length) (hl : cs.length ≤ 1000000) {sq at_ : Int} {ws : List Wr} (hx : cs[z] = ⟨sq, at_, ws⟩) (hk : KyI wr.heap.size d wr sq at_ (ofK key ws) w4) :
    ∃ fa fl fc, w4.cell? ⟨d, 0, none⟩ = some (.int .i64 sq) ∧ w4.cell? ⟨d, 1, none⟩ = some (.int .i64 at_) ∧ w4.cell? ⟨d, 2, none⟩ = some (.slice fa fl fc) ∧
      ∃ a2 c2 W2, (Builtin.append_ #[27, 27] 27 #[.slice va z vc, .slice (some ⟨w4.heap.size, 0, none⟩) 1 1]).run Try.prog (w4.alloc (.cells #[.int .i64 sq, .int .i64 at_, .slice fa fl fc] 43)) = .ok (.slice a2 (z + 1) c2) W2 ∧ Hid (OutI W key cs (z + 1) (.slice a2 (z + 1) c2) W2) := by
  obtain ⟨h1, h2, h3⟩ := h
  obtain ⟨k1, k2, fa, fc, k3, k4⟩ := hk
  have hbA : Below w4.heap.size w4 (w4.alloc (.cells #[.int .i64 sq, .int .i64 at_, .slice fa (ofK key ws).length fc] 43)) := (Below.refl _ _).alloc (Nat.le_refl _) _
  have hs2 := h2.size
  have hs4 := k2.size
  have hbb : Below wr.heap.size wr (w4.alloc (.cells #[.int .i64 sq, .int .i64 at_, .slice fa (ofK key ws).length fc] 43)) := k2.trans (hbA.mono hs4)
  have hlz : (ofC key (cs.take z)).length = z := by rw [ofC_len, List.length_take]; omega
  obtain ⟨a2, c2, W2, hrun, hown, hg⟩ := (h1.below hbb).app (⟨sq, at_, ofK key ws⟩ : CmM) ((k4.below hbA).keep fun q hq => ⟨rfl, Nat.le_trans hs2 (k4.lt q hq).1⟩) (heap_alloc_new w4 _) (by omega) (by rw [World.size_alloc]; omega) 27
  rw [hlz] at hrun hown
  have e : ofC key (cs.take (z + 1)) = ofC key (cs.take z) ++ [⟨sq, at_, ofK key ws⟩] := by
    rw [List.take_succ_eq_append_getElem hz, hx]
    unfold ofC
    simp
  refine ⟨fa, _, fc, k3.cell 0, k3.cell 1, k3.cell 2, a2, c2, W2, hrun, Lib.hid ⟨by rw [e]; exact hown, ?_, fun q hq => ?_⟩⟩
  · exact (h2.trans (hbb.mono hs2)).grown hg (by rw [World.size_alloc]; omega) fun q hq => h3 q hq
  · obtain ⟨wvs, k5, _⟩ := hown
    have hln : (ofC key (cs.take z) ++ [(⟨sq, at_, ofK key ws⟩ : CmM)]).length = z + 1 := by rw [List.length_append, hlz]; rfl
    rw [hln] at k5
    exact (k5.lt q hq).1

theorem ofK_next {key : ByteArray} {ws : List Wr} {y : Nat} (h : y < ws.length) : ofK key (ws.take (y + 1)) = if (ws[y]).key = key then ofK key (ws.take y) ++ [ws[y]] else ofK key (ws.take y) := by
  unfold ofK
  rw [List.take_succ_eq_append_getElem h, List.filter_append]
  by_cases e : (ws[y]).key = key
  · rw [if_pos e, List.filter_cons_of_pos (by simpa using e)]; rfl
  · rw [if_neg e, List.filter_cons_of_neg (by simpa using e)]; simp

attribute [-go_sem] Builtin.append_
attribute [local irreducible] wpStill
set_option maxHeartbeats 2000000 in
set_option maxRecDepth 100000 in
theorem walk_main {W : World} (a : Option Addr) (len cap : Nat) (wss : List (List Wr)) (h : WwsCame W a len wss) (hle : len ≤ 30) (key : ByteArray) (hkl : key.size ≤ 60) :
    Calls Try.prog 11 #[.slice a len cap, .string key] W fun e W' => e = .returned (.bool true) ∧ Below W.heap.size W W' := by
  obtain rfl := h.1
  have hfew : decide ((wss.length : Int) ≤ 30) = true := decide_eq_true (by omega)
  have HLI : Hid (∀ W', Below W.heap.size W W' → Calls Try.prog 19 #[.int .i64 1, .slice a wss.length cap] W' fun e W2 => ∃ la lc, e = .returned (.slice la wss.length lc) ∧ Hid (Below W.heap.size W W2 ∧ CIs W2 la (listC 1 wss))) := Lib.hid fun W' hb => by
    refine (list_any (cap := cap) 1 ⟨rfl, h.2.1.below hb, h.2.2⟩ (by omega) (by omega) (by omega)).mono ?_
    rintro e W2 ⟨la, lc, rfl, k1, k2⟩
    rw [← listC_len 1 wss] at k1
    exact ⟨la, lc, rfl, Lib.hid ⟨hb.trans (k2.mono hb.size), k1.is⟩⟩
  have hlen := listC_len 1 wss
  have h12 := listC_12 1 wss
  have hMA : ∀ (cs : List CmM), cs.length = wss.length → Takes 0 [] cs → (∀ c ∈ cs, c.ws.length ≤ 12) → SG (madeM 0 [] cs) 400 ∧ ∀ W' la lc, CIs W' la cs → Calls Try.prog 20 #[.int .i64 0, .slice none 0 0, .slice la wss.length lc] W' fun e W2 => ∃ s, e = .returned (.tuple #[.pointer (some ⟨s, 0, none⟩), .bool true]) ∧ Hid ((∃ P, StoreAt P W2 s (madeM 0 [] cs)) ∧ Below W'.heap.size W' W2) := fun cs hl ht hn => by
    refine ⟨?_, fun W' la lc hc => ?_⟩
    · have := SG.made ht 12 hn wss.length (by omega)
      rw [← hl, List.take_length, hl] at this
      exact this.mono (by simp; omega)
    · refine (made_any (bc := 0) (cap := lc) 0 (.inl rfl : WrsIs W' none []) rfl hc hl ht hn (by rw [hl]; simp; omega) (by omega)).mono ?_
      rintro e W2 ⟨s, rfl, h2⟩
      exact ⟨s, rfl, Lib.hid ⟨h2.out.1.at_, h2.out.2⟩⟩
  have ht1 : Takes 0 [] (listC 1 wss) := takes_list (first := 0) rfl (by omega) wss (by omega)
  have ht2 := takes_own key wss (by omega)
  have HM1 := Lib.hid (hMA _ hlen ht1 h12)
  have HM2 := Lib.hid (hMA _ ((ofC_len key _).trans hlen) ht2 (ofC_12 key h12))
  obtain ⟨cs, hcs⟩ : ∃ cs, cs = listC 1 wss := ⟨_, rfl⟩
  rw [← hcs] at HLI HM1 HM2 hlen h12
  have hwl : wss.length = cs.length := hlen.symm
  rw [hwl] at hfew HLI HM1 HM2 hle ⊢
  have H12 := Lib.hid h12
  clear h ht1 ht2 hMA hlen hcs hwl h12
  go_enter Try.func11, Try.ntmps11
  go_wp2_with fail
  refine (head_any _).mono ?_
  rintro e w1 ⟨rfl, hb1⟩
  have HB1 := Lib.hid hb1
  clear hb1
  go_wp2_with fail
  refine (few_any _ _ _ _).mono ?_
  rintro e w1' ⟨rfl, rfl⟩
  rw [hfew]
  have hk60 : ¬ ((60 : Int) < (key.size : Int)) := by omega
  go_wp2_with fail
  refine (HLI.out w1 HB1.out).mono ?_
  rintro e w2 ⟨la, lc, rfl, hL⟩
  go_wp2_with fail
  refine (HM1.out.2 w2 la lc hL.out.2).mono ?_
  rintro e w3 ⟨s, rfl, hM⟩
  have HB3 : Hid (Below W.heap.size W w3 ∧ CIs w3 la cs ∧ ∃ P, StoreAt P w3 s (madeM 0 [] cs)) := Lib.hid ⟨hL.out.1.trans (hM.out.2.mono hL.out.1.size), hL.out.2.below hM.out.2, hM.out.1⟩
  clear hL hM HB1 HLI
  go_wp2_with fail
  have H0 : Hid (OutI w3 key cs 0 (.slice (some ⟨w3.heap.size, 0, none⟩) 0 0) (w3.alloc (.cells #[] 43))) := Lib.hid ⟨⟨[], RowK.mk (c := 0) (Box.new w3 43 #[]) rfl (Nat.le_refl _) (Nat.le_refl _) (by omega) rfl (fun q hq => absurd hq (by simp [ofC])) (fun u hu => by simp [cmrow] at hu), trivial⟩, (Below.refl _ _).alloc (Nat.le_refl _) _, fun q hq => by
    have h9 : some w3.heap.size = some q := hq
    injection h9 with h9
    omega⟩
  go_loopw [43, 8] (fun iv v wr => ∃ z : Nat, z ≤ cs.length ∧ iv = .int .i64 (z : Int) ∧ (∃ va vc, v = .slice va z vc) ∧ Hid (OutI w3 key cs z v wr)) (fun iv _ _ => cs.length - (intOf iv).toNat)
  case atStart => exact ⟨0, Nat.zero_le _, rfl, ⟨_, _, rfl⟩, H0⟩
  case round =>
    obtain ⟨z, hz, rfl, ⟨va, vc, rfl⟩, hst⟩ := hrel
    clear H0
    obtain ⟨wo, hwo⟩ : ∃ wo, wo = wr := ⟨_, rfl⟩
    subst hwo
    by_cases hzl : z < cs.length
    · have hzI : (z : Int) < (cs.length : Int) := by omega
      have hlow : Below w3.heap.size w3 wo := hst.out.2.1
      rcases HB3.out.2.1 with he | ⟨b2, off2, ea, hblt2, hv⟩
      · exact absurd hzl (by rw [he]; simp)
      subst ea
      obtain ⟨m0, m1, wa, wc, m2, hws⟩ := hv z hzl
      replace m0 := (hlow.cell (p := ⟨b2, off2 + z * 3, none⟩) hblt2).trans m0
      replace m1 := (hlow.cell (p := ⟨b2, off2 + z * 3 + 1, none⟩) hblt2).trans m1
      replace m2 := (hlow.cell (p := ⟨b2, off2 + z * 3 + 2, none⟩) hblt2).trans m2
      obtain ⟨x, hx⟩ : ∃ x, x = cs[z] := ⟨_, rfl⟩
      rw [← hx] at m0 m1 m2 hws
      obtain ⟨sq, at_, ws⟩ := x
      simp only at m0 m1 m2 hws
      have hwl : ws.length ≤ 12 := H12.out ⟨sq, at_, ws⟩ (by rw [hx]; exact List.getElem_mem hzl)
      have HS := Lib.hid (fun (d : Nat) (w4 : World) (hk : KyI wo.heap.size d wo sq at_ (ofK key ws) w4) => out_step hst.out hzl (by omega) hx.symm hk)
      have HWS := Lib.hid (hws.below hlow)
      obtain ⟨n, hn⟩ : ∃ n, n = ws.length := ⟨_, rfl⟩
      rw [← hn] at m2 hwl
      have HNN := Lib.hid hn
      clear hx hws hst hlow hv hn
      go_wp2_with fail
      have HK0 : Hid (KyI wo.heap.size (wo.heap.size + 1) wo sq at_ (ofK key (ws.take 0)) ((wo.alloc (.cells #[.int .i64 sq, .int .i64 at_, .slice wa n wc] 43)).alloc (.cells #[.int .i64 sq, .int .i64 at_, .slice none 0 0] 43))) := Lib.hid (by
        have h1 := Box.new (wo.alloc (.cells #[.int .i64 sq, .int .i64 at_, .slice wa n wc] 43)) 43 #[.int .i64 sq, .int .i64 at_, .slice none 0 0]
        rw [World.size_alloc] at h1
        exact ⟨by omega, ((Below.refl _ _).alloc (Nat.le_refl _) _).alloc (by simp) _, none, 0, h1, rowk_nil _ _⟩)
      obtain ⟨e, he⟩ : ∃ e, e = wo.heap.size := ⟨_, rfl⟩
      rw [← he] at HK0 HS ⊢
      have HE := Lib.hid he
      clear he m0 m1 m2
      go_loopw [55] (fun iv wr2 => ∃ y : Nat, y ≤ n ∧ iv = .int .i64 (y : Int) ∧ Hid (KyI e (e + 1) wo sq at_ (ofK key (ws.take y)) wr2)) (fun iv _ => n - (intOf iv).toNat)
      case atStart => exact ⟨0, Nat.zero_le _, rfl, HK0⟩
      case round =>
        obtain ⟨y, hy, rfl, hst⟩ := hrel
        clear HK0
        by_cases hyl : y < n
        · have hyI : (y : Int) < (n : Int) := by omega
          have hyw : y < ws.length := by rw [← HNN.out]; exact hyl
          have hlow : Below e wo wr := hst.out.2.1
          have hez : e ≤ wr.heap.size := by have := hlow.size; have := HE.out; omega
          obtain ⟨b4, off4, e4, hblt4, ⟨r0, r1, r2⟩, _⟩ := HWS.out.at_ y hyw
          subst e4
          have HON := Lib.hid (ofK_next (key := key) hyw)
          have hfl : (ofK key (ws.take y)).length ≤ 1000000 := by
            have h1 := List.length_filter_le (fun w : Wr => decide (w.key = key)) (ws.take y)
            rw [List.length_take] at h1
            unfold ofK
            omega
          obtain ⟨x, hx⟩ : ∃ x, x = ws[y] := ⟨_, rfl⟩
          rw [← hx] at r0 r1 r2 HON
          obtain ⟨xk, xv, xg⟩ := x
          simp only at r0 r1 r2 HON
          rw [← HE.out] at hblt4
          replace r0 := (hlow.cell (p := ⟨b4, off4 + y * 3, none⟩) hblt4).trans r0
          replace r1 := (hlow.cell (p := ⟨b4, off4 + y * 3 + 1, none⟩) hblt4).trans r1
          replace r2 := (hlow.cell (p := ⟨b4, off4 + y * 3 + 2, none⟩) hblt4).trans r2
          by_cases hk : xk = key
          · have hkk : (xk.toList == key.toList) = true := by rw [hk]; exact beq_self_eq_true _
            have HON2 : Hid (ofK key (ws.take (y + 1)) = ofK key (ws.take y) ++ [⟨xk, xv, xg⟩]) := Lib.hid (by rw [HON.out, if_pos hk])
            obtain ⟨va2, vc2, hcd, a2, c2, W2, hrun, ⟨u, hu⟩, hfz, HN⟩ := ky_add hst.out (Nat.le_of_eq HE.out) ((Below.refl wr.heap.size wr).alloc (Nat.le_refl _) (.cells #[.string xk, .string xv, .bool xg] 51)) hfl ⟨xk, xv, xg⟩
            rw [← HON2.out] at HN
            simp only [World.size_alloc] at hrun
            obtain ⟨F, hF⟩ : ∃ F, F = (ofK key (ws.take y)).length := ⟨_, rfl⟩
            rw [← hF] at hcd hrun HN
            clear hx hst hlow hyw hk HON HON2 hF hfl hez
            go_wp2_with fail
            go_roundw
            case rel => exact ⟨y + 1, by omega, by go_num, HN⟩
            case measure => simp [intOf]; omega
          · have hkk : (xk.toList == key.toList) = false := by
              rw [Lib.toList_data, Lib.toList_data]
              exact Bool.eq_false_iff.2 fun h3 => hk ((key8 _ _).1 (eq_of_beq h3))
            have HN : Hid (KyI e (e + 1) wo sq at_ (ofK key (ws.take (y + 1))) (wr.alloc (.cells #[.string xk, .string xv, .bool xg] 51))) := Lib.hid (by
              rw [HON.out, if_neg hk]
              exact hst.out.below hez ((Below.refl _ _).alloc (Nat.le_refl _) _))
            clear hx hst hlow hyw hk HON hfl hez
            go_wp2_with fail
            go_roundw
            case rel => exact ⟨y + 1, by omega, by go_num, HN⟩
            case measure => simp [intOf]; omega
        · obtain rfl : y = n := by omega
          have hyI : ¬ ((y : Int) < (y : Int)) := by omega
          obtain ⟨fa, fl, fc, c0, c1, c2', a2, c2, W2, hrun, HN⟩ := HS.out (e + 1) wr (by
            have := hst.out
            rwa [HNN.out, List.take_length] at this)
          clear hst HS HNN HWS
          go_wp2_with fail
          go_roundw
          case rel => exact ⟨z + 1, by omega, by go_num, ⟨_, _, rfl⟩, HN⟩
          case measure => simp [intOf]; omega
    · obtain rfl : z = cs.length := by omega
      have hzI : ¬ (cs.length : Int) < (cs.length : Int) := by omega
      have HO : Hid (Below w3.heap.size w3 wo ∧ CIs wo va (ofC key cs)) := Lib.hid (by
        have h1 := hst.out.1
        rw [List.take_length, ← ofC_len key cs] at h1
        exact ⟨hst.out.2.1, h1.is⟩)
      have HM2' := Lib.hid (HM2.out.2 wo va vc HO.out.2)
      clear hst
      go_wp2_with fail
      refine HM2'.out.mono ?_
      rintro e w5 ⟨t, rfl, hM⟩
      have HT : Hid (Below W.heap.size W w5 ∧ (∃ P, StoreAt P w5 s (madeM 0 [] cs)) ∧ ∃ P, StoreAt P w5 t (madeM 0 [] (ofC key cs))) := Lib.hid (by
        obtain ⟨k1, _, P, k2⟩ := HB3.out
        have h1 := HO.out.1
        have h2 := hM.out.2
        exact ⟨k1.trans ((h1.mono k1.size).trans (h2.mono (by have := k1.size; have := h1.size; omega))), ⟨P, (k2.below h1).below h2⟩, hM.out.1⟩)
      have HG1 := Lib.hid HM1.out.1
      have HG2 := Lib.hid HM2.out.1
      clear hM HO HM1 HM2 HM2' HB3
      go_wp2_with fail
      go_loopw [16] (fun iv wr => ∃ q : Nat, q ≤ cs.length + 1 ∧ iv = .int .i64 (q : Int) ∧ Hid (Below W.heap.size W wr ∧ (∃ P, StoreAt P wr s (madeM 0 [] cs)) ∧ ∃ P, StoreAt P wr t (madeM 0 [] (ofC key cs)))) (fun iv _ => cs.length + 1 - (intOf iv).toNat)
      case atStart => exact ⟨0, by omega, rfl, HT⟩
      case round =>
        obtain ⟨q, hq, rfl, hst⟩ := hrel
        clear HT
        by_cases hql : q ≤ cs.length
        · have hqI : (q : Int) ≤ (cs.length : Int) := by omega
          obtain ⟨gv, gb, hg⟩ : ∃ gv gb, (madeM 0 [] cs).get key (q : Int) = (gv, gb) := ⟨_, _, rfl⟩
          have hg2 := get_own cs key (q : Int)
          rw [hg] at hg2
          have HA : Hid (∀ w, (∃ P, StoreAt P w s (madeM 0 [] cs)) → Calls Try.prog 25 #[.pointer (some ⟨s, 0, none⟩), .string key, .int .i64 (q : Int)] w fun e w' => e = .returned (.tuple #[.string gv, .bool gb]) ∧ Hid (Below w.heap.size w w')) := Lib.hid fun w ⟨P, hP⟩ => by
            refine (stGet_any hP (HG1.out.good (by omega)) key (q : Int)).mono ?_
            rintro e w' ⟨rfl, hb⟩
            rw [hg]
            exact ⟨rfl, Lib.hid hb⟩
          have HB : Hid (∀ w, (∃ P, StoreAt P w t (madeM 0 [] (ofC key cs))) → Calls Try.prog 25 #[.pointer (some ⟨t, 0, none⟩), .string key, .int .i64 (q : Int)] w fun e w' => e = .returned (.tuple #[.string gv, .bool gb]) ∧ Hid (Below w.heap.size w w')) := Lib.hid fun w ⟨P, hP⟩ => by
            refine (stGet_any hP (HG2.out.good (by omega)) key (q : Int)).mono ?_
            rintro e w' ⟨rfl, hb⟩
            rw [hg2]
            exact ⟨rfl, Lib.hid hb⟩
          have HC : Hid (∀ w, (∃ P, StoreAt P w t (madeM 0 [] (ofC key cs))) → Calls Try.prog 35 #[.pointer (some ⟨t, 0, none⟩), .int .i64 (q : Int)] w fun e w' => ∃ a l c, e = .returned (.slice a l c) ∧ l ≤ 1 ∧ Hid (Below w.heap.size w w')) := Lib.hid fun w ⟨P, hP⟩ => by
            refine (base_any hP HG2.out (by omega) (q : Int)).mono ?_
            rintro e w' ⟨a, c, rfl, _, hb⟩
            exact ⟨a, _, c, rfl, base_own cs key _, Lib.hid hb⟩
          clear hg hg2
          go_wp2_with fail
          refine (HA.out wr hst.out.2.1).mono ?_
          rintro e w6 ⟨rfl, hb6⟩
          have H6 : Hid (Below W.heap.size W w6 ∧ (∃ P, StoreAt P w6 s (madeM 0 [] cs)) ∧ ∃ P, StoreAt P w6 t (madeM 0 [] (ofC key cs))) := Lib.hid (by
            obtain ⟨h1, ⟨P, h2⟩, P2, h3⟩ := hst.out
            exact ⟨h1.trans (hb6.out.mono h1.size), ⟨P, h2.below hb6.out⟩, P2, h3.below hb6.out⟩)
          clear hst hb6 HA
          go_wp2_with fail
          refine (HB.out w6 H6.out.2.2).mono ?_
          rintro e w7 ⟨rfl, hb7⟩
          have H7 : Hid (Below W.heap.size W w7 ∧ (∃ P, StoreAt P w7 s (madeM 0 [] cs)) ∧ ∃ P, StoreAt P w7 t (madeM 0 [] (ofC key cs))) := Lib.hid (by
            obtain ⟨h1, ⟨P, h2⟩, P2, h3⟩ := H6.out
            exact ⟨h1.trans (hb7.out.mono h1.size), ⟨P, h2.below hb7.out⟩, P2, h3.below hb7.out⟩)
          clear H6 hb7 HB
          go_wp2_with fail
          refine (HC.out w7 H7.out.2.2).mono ?_
          rintro e w8 ⟨ba, bl, bc, rfl, hbl, hb8⟩
          have H8 : Hid (Below W.heap.size W w8 ∧ (∃ P, StoreAt P w8 s (madeM 0 [] cs)) ∧ ∃ P, StoreAt P w8 t (madeM 0 [] (ofC key cs))) := Lib.hid (by
            obtain ⟨h1, ⟨P, h2⟩, P2, h3⟩ := H7.out
            exact ⟨h1.trans (hb8.out.mono h1.size), ⟨P, h2.below hb8.out⟩, P2, h3.below hb8.out⟩)
          have hbl1 : ¬ ((1 : Int) < (bl : Int)) := by omega
          clear H7 hb8 HC
          go_wp2_with fail
          go_roundw
          case rel => exact ⟨q + 1, by omega, by go_num, H8⟩
          case measure => simp [intOf]; omega
        · obtain rfl : q = cs.length + 1 := by omega
          have hqI : ¬ ((cs.length : Int) + 1 ≤ (cs.length : Int)) := by omega
          have HF : Hid (Below W.heap.size W wr) := Lib.hid hst.out.1
          clear hst
          go_wp2
          first | exact ⟨rfl, HF.out⟩ | (go_ret; exact ⟨rfl, HF.out⟩)

theorem walk_out {w : World} (a : Option Addr) (len cap : Nat) (key : ByteArray) (h : 30 < len ∨ (len ≤ 30 ∧ 60 < key.size)) :
    Calls Try.prog 11 #[.slice a len cap, .string key] w fun e W' => e = .returned (.bool true) ∧ Below w.heap.size w W' := by
  rcases h with h | ⟨h, h2⟩
  · have hfew : decide ((len : Int) ≤ 30) = false := decide_eq_false (by omega)
    go_enter Try.func11, Try.ntmps11
    go_wp2_with fail
    refine (head_any _).mono ?_
    rintro e w1 ⟨rfl, hb1⟩
    have HB1 := Lib.hid hb1
    clear hb1
    go_wp2_with fail
    refine (few_any _ _ _ _).mono ?_
    rintro e w1' ⟨rfl, rfl⟩
    rw [hfew]
    go_wp2
    first | exact ⟨rfl, HB1.out⟩ | (go_ret; exact ⟨rfl, HB1.out⟩)
  · have hfew : decide ((len : Int) ≤ 30) = true := decide_eq_true (by omega)
    have hk60 : ((60 : Int) < (key.size : Int)) := by omega
    go_enter Try.func11, Try.ntmps11
    go_wp2_with fail
    refine (head_any _).mono ?_
    rintro e w1 ⟨rfl, hb1⟩
    have HB1 := Lib.hid hb1
    clear hb1
    go_wp2_with fail
    refine (few_any _ _ _ _).mono ?_
    rintro e w1' ⟨rfl, rfl⟩
    rw [hfew]
    go_wp2
    first | exact ⟨rfl, HB1.out⟩ | (go_ret; exact ⟨rfl, HB1.out⟩)

theorem walk {w : World} (a : Option Addr) (len cap : Nat) (h : ∃ wss, WwsCame w a len wss) (key : ByteArray) (_ : key.size ≤ maxLen) :
    Calls Try.prog 11 #[.slice a len cap, .string key] w fun e W' => e = .returned (.bool true) ∧ Below w.heap.size w W' := by
  by_cases hl : 30 < len
  · exact walk_out a len cap key (.inl hl)
  · by_cases hk : 60 < key.size
    · exact walk_out a len cap key (.inr ⟨by omega, hk⟩)
    · obtain ⟨wss, h⟩ := h
      exact walk_main a len cap wss h (by omega) key (by omega)

end Go.Proofs.Ytmphcafffblnmaa.storeKeys
