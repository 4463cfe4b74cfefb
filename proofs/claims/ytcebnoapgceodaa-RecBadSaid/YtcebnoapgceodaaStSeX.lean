/-
  store: seen.
-/
import Derived.Test.YtcebnoapgceodaaStSeW
namespace Go.Proofs.Ytcebnoapgceodaa.sT
open Go.RowKit Go.Proofs.Ytcebnoapgceodaa.tC Go.Proofs.Ytcebnoapgceodaa.rgR

set_option linter.unusedVariables false
set_option linter.unusedSimpArgs false
attribute [local go_sem] Oper.semAt_some
attribute [-go_sem] Builtin.append_

/-- both ways out of a loop over a sequence go on alike -/
theorem wpIn_join {c : Code} {F : Fence} {n : Nat} {P : Program} {a : Act} {w : World} {Q : Exit → Act → World → Prop} {id : Nat} (K : Nat → World → Prop) (hq : ∀ a' W', Q .normal a' W' → Q (.exit id) a' W')
    (h : c.wpIn F n P (fun e a' W' => (e = .normal ∨ e = .exit id) ∧ ∃ D, a' = { a with defers := { target := .collected D, args := #[] } :: a.defers } ∧ K D W') a w)
    (hk : ∀ D W', K D W' → Q .normal { a with defers := { target := .collected D, args := #[] } :: a.defers } W') : c.wpIn F n P Q a w := by
  refine wpIn_mono h ?_
  rintro e a' W' ⟨(rfl | rfl), D, rfl, hK⟩
  · exact hk _ _ hK
  · exact hq _ _ (hk _ _ hK)

theorem rowk_nil (B : Nat) (w : World) : RowK 48 3 B w (.slice none 0 0) 0 [] := ⟨World.ownsRow_nil w B _ _, fun u hu => by simp at hu⟩

/-- the world behind a loop's end, and its deferred call -/
def SeE (W6 : World) (L : List Wr) (bl D : Nat) (W' : World) : Prop := W6.heap.size ≤ D ∧ W'.heap[D]? = some (.deferred (some [])) ∧ (∃ a c, Boxed W' bl 22 (.slice a L.length c) ∧ RowK 48 3 (W6.heap.size + 3) W' (.slice a L.length c) L.length (L.flatMap wrcells)) ∧ Below bl W6 W'

theorem seen_no {P : Nat → Prop} {W : World} {s : Nat} {M : StM} (h0 : StoreAt P W s M) (fr to : ByteArray) (seq : Int) (most : Nat) (ht : M.tells seq = false) :
    Calls Try.prog 59 #[.pointer (some ⟨s, 0, none⟩), .string fr, .string to, .int .i64 seq, .int .i64 (most : Int)] W (SeenP W []) := by
  have HT : Hid (∀ w', Below W.heap.size W w' → Calls Try.prog 54 #[.pointer (some ⟨s, 0, none⟩), .int .i64 seq] w' fun e w2 => e = .returned (.bool false) ∧ Hid (Below W.heap.size W w2)) := Lib.hid fun w' hb => by
    refine (tells_any (h0.below hb) seq).mono ?_
    rintro e w2 ⟨rfl, hb2⟩
    exact ⟨by rw [ht], Lib.hid (hb.trans (hb2.mono hb.size))⟩
  have HF : Hid (∀ w', Below W.heap.size W w' → SeenP W [] (.returned (.slice none 0 0)) w') := Lib.hid fun w' hb => ⟨none, 0, rfl, rowk_nil _ _, hb⟩
  obtain ⟨Q, hQ⟩ : ∃ Q, Q = SeenP W [] := ⟨_, rfl⟩
  rw [← hQ] at HF ⊢
  clear hQ h0 ht
  go_enter Try.func59, Try.ntmps59
  go_wp2_with fail
  refine (HT.out _ (((Below.refl _ W).alloc (Nat.le_refl _) _).alloc (by simp) _)).mono ?_
  rintro e w1 ⟨rfl, hb⟩
  have HF2 := Lib.hid (HF.out w1 hb.out)
  clear hb HF HT
  go_wp2
  first | exact HF2.out | (refine bodyPost_ret (v := .slice none 0 0) (by simp [results, Try.results59, go_sem]) rfl HF2.out)

set_option maxHeartbeats 4000000 in
set_option maxRecDepth 100000 in
theorem seen_yes {P : Nat → Prop} {W : World} {s : Nat} {M : StM} (h0 : StoreAt P W s M) {N : Nat} (hg : SG M N) (hN : N ≤ 900000) (fr to : ByteArray) (seq : Int) (most : Nat) (hm : 0 < most ∨ M.keys = []) (hm2 : most ≤ 1000000) (ht : M.tells seq = true) :
    Calls Try.prog 59 #[.pointer (some ⟨s, 0, none⟩), .string fr, .string to, .int .i64 seq, .int .i64 (most : Int)] W (SeenP W ((M.seen fr to seq).take most)) := by
  obtain ⟨c, hc⟩ : ∃ c, c = W.heap.size := ⟨_, rfl⟩
  have HT : Hid (∀ w', Below c W w' → Calls Try.prog 54 #[.pointer (some ⟨s, 0, none⟩), .int .i64 seq] w' fun e w2 => e = .returned (.bool true) ∧ Hid (Below w'.heap.size w' w2)) := Lib.hid fun w' hb => by
    rw [hc] at hb
    refine (tells_any (h0.below hb) seq).mono ?_
    rintro e w2 ⟨rfl, hb2⟩
    exact ⟨by rw [ht], Lib.hid hb2⟩
  have hgood := hg.good hN
  obtain ⟨cv, wvs, ls, BT, BC, BM, h⟩ := h0
  have HS := Lib.hid h
  obtain ⟨L, hL⟩ : ∃ L, L = (M.seen fr to seq).take most := ⟨_, rfl⟩
  have hRK : Chs BC W (rangeK ls.flatten fr to) (rangeM M.keys fr to) := h.ch.range fr to
  have hsub : ∀ q ∈ rangeM M.keys fr to, q ∈ M.keys := fun q hq => (List.mem_filter.1 ((List.takeWhile_sublist _).subset hq)).1
  have hfound : foundK M.keys seq (rangeK ls.flatten fr to) = M.seen fr to seq := seen_kv hg.rise seq hRK hsub
  -- the loop's end and its break
  have HDONE : Hid (∀ l : List KV, l = rangeK ls.flatten fr to → (l = [] ∨ (foundK M.keys seq l).length < most) → foundK M.keys seq l = L) := Lib.hid fun l hl h1 => by
    rw [hL, ← hfound, ← hl]
    rcases h1 with rfl | h1
    · simp [foundK]
    · rw [List.take_of_length_le (by omega)]
  have HSTOP : Hid (∀ l : List KV, l <+: rangeK ls.flatten fr to → (foundK M.keys seq l).length = most → foundK M.keys seq l = L) := Lib.hid fun l ⟨r, hr⟩ h1 => by
    rw [hL, ← hfound, ← hr]
    unfold foundK at h1 ⊢
    rw [List.filterMap_append, List.take_append_of_le_length (by omega), List.take_of_length_le (by omega)]
  have HPP : Hid (∀ p ∈ ls.flatten, ∃ vs a c, (p.1, vs) ∈ M.keys ∧ p.2 = .slice a vs.length c ∧ RowK 187 3 0 W (.slice a vs.length c) vs.length (vrow vs)) := Lib.hid fun p hp => by
    obtain ⟨vs, k1, k2⟩ := h.ch.mem p hp
    obtain ⟨a, c, e, _⟩ := k2.form
    exact ⟨vs, a, c, k1, e, by rw [← e]; exact k2⟩
  have HV : Hid (∀ p ∈ ls.flatten, IsV p.2) := Lib.hid fun p hp => by
    obtain ⟨vs, a, c, _, e, _⟩ := HPP.out p hp
    exact ⟨a, _, c, e⟩
  have hm3 : ∀ k, k < (fromK ls.flatten fr).length → 0 < most := fun k hk => hm.elim id fun he => by
    have h1 := h.ch.len
    rw [he] at h1
    have h2 : (fromK ls.flatten fr).length ≤ ls.flatten.length := List.length_filter_le _ _
    simp only [List.length_nil] at h1
    omega
  have HM3 := Lib.hid hm3
  have HRISE := Lib.hid hg.rise
  have HGOOD := Lib.hid hgood
  have HFIN : Hid (∀ a c2 W', RowK 48 3 W.heap.size W' (.slice a L.length c2) L.length (L.flatMap wrcells) → Below W.heap.size W W' → SeenP W L (.returned (.slice a L.length c2)) W') := Lib.hid fun a c2 W' k1 k2 => ⟨a, c2, rfl, k1, k2⟩
  rw [← hL]
  obtain ⟨Q, hQ⟩ : ∃ Q, Q = SeenP W L := ⟨_, rfl⟩
  rw [← hQ] at HFIN ⊢
  rw [← hc] at HFIN
  clear hQ hL hRK hsub hfound h hg hgood ht hm hm3
  refine (callsIn_wide (n := 3)).1 (callsIn_of_wp_marks Try.func59 rfl trivial ?_)
  simp only [Try.ntmps59, List.size_toArray, List.length_cons, List.length_nil, Nat.reduceAdd, Nat.reduceSub, Array.replicate_succ, Array.replicate_zero, List.push_toArray, List.append_toArray, List.nil_append, List.cons_append]
  refine (wpIn_wide (n := 3)).2 ?_
  go_wp2_with fail
  rw [← hc]
  have HCC := Lib.hid hc
  obtain ⟨W1, hW1⟩ : ∃ W1, W1 = (W.alloc (.cells #[.int .i64 seq] 3)).alloc (.cells #[.int .i64 (most : Int)] 3) := ⟨_, rfl⟩
  rw [← hW1]
  have HA1 : Hid (Below c W W1 ∧ Boxed W1 c 3 (.int .i64 seq) ∧ Boxed W1 (c + 1) 3 (.int .i64 (most : Int)) ∧ W1.heap.size = c + 2) := Lib.hid (by
    have h1 := Boxed.new W 3 (.int .i64 seq)
    have h2 := Boxed.new (W.alloc (.cells #[.int .i64 seq] 3)) 3 (.int .i64 (most : Int))
    simp only [World.size_alloc, ← hc] at h1 h2
    rw [hW1]
    exact ⟨((Below.refl _ W).alloc (by omega) _).alloc (by simp; omega) _, h1.alloc _, h2, by simp [hc]⟩)
  clear hW1 hc
  refine (HT.out W1 HA1.out.1).mono ?_
  rintro e w2 ⟨rfl, hb2⟩
  obtain ⟨bl, hbl⟩ : ∃ bl, bl = w2.heap.size := ⟨_, rfl⟩
  have HA2 : Hid (Below c W w2 ∧ Boxed w2 c 3 (.int .i64 seq) ∧ Boxed w2 (c + 1) 3 (.int .i64 (most : Int)) ∧ c + 2 ≤ bl) := Lib.hid (by
    obtain ⟨k1, k2, k3, k4⟩ := HA1.out
    have hb := hb2.out
    have hsz := hb.size
    exact ⟨k1.trans (hb.mono (by omega)), (hb.block _ (by omega)).trans k2, (hb.block _ (by omega)).trans k3, by omega⟩)
  have HBL := Lib.hid hbl
  clear hb2 HA1 HT hbl
  go_wp2_with fail
  rw [← HBL.out]
  obtain ⟨W3, hW3⟩ : ∃ W3, W3 = w2.alloc (.cells #[.slice none 0 0] 22) := ⟨_, rfl⟩
  rw [← hW3]
  have HW3 := Lib.hid hW3
  clear hW3
  refine (chains_any s W3).mono ?_
  rintro e w3 ⟨rfl, rfl⟩
  go_wp2_with fail
  refine (rangeC_any (some ⟨s, 2, none⟩) fr to W3).mono ?_
  rintro e W6 ⟨rfl, hw6⟩
  have hz3 : W3.heap.size = bl + 1 := by rw [HW3.out, HBL.out]; simp
  rw [hz3]
  have HALL : Hid (Below c W W6 ∧ Boxed W6 c 3 (.int .i64 seq) ∧ Boxed W6 (c + 1) 3 (.int .i64 (most : Int)) ∧ Boxed W6 bl 22 (.slice none 0 0) ∧ Boxed W6 (bl + 1) 110 (.pointer (some ⟨s, 2, none⟩)) ∧ Boxed W6 (bl + 1 + 1) 9 (.string fr) ∧ Boxed W6 (bl + 1 + 2) 9 (.string to) ∧ W6.heap.size = bl + 4 ∧ c + 2 ≤ bl) := Lib.hid (by
    obtain ⟨k1, k2, k3, k4⟩ := HA2.out
    have h0 := Boxed.new w2 22 (.slice none 0 0)
    rw [← HBL.out, ← HW3.out] at h0
    have h1 := Boxed.new W3 110 (.pointer (some ⟨s, 2, none⟩))
    have h2 := Boxed.new (W3.alloc (.cells #[.pointer (some ⟨s, 2, none⟩)] 110)) 9 (.string fr)
    have h3 := Boxed.new ((W3.alloc (.cells #[.pointer (some ⟨s, 2, none⟩)] 110)).alloc (.cells #[.string fr] 9)) 9 (.string to)
    simp only [World.size_alloc, hz3] at h1 h2 h3
    have hb3 : Below bl w2 W3 := by rw [HW3.out]; exact (Below.refl _ _).alloc (by rw [HBL.out]; exact Nat.le_refl _) _
    have hb : Below (bl + 1) W3 W6 := by rw [hw6]; exact (((Below.refl _ W3).alloc (by omega) _).alloc (by simp; omega) _).alloc (by simp; omega) _
    have hbb : Below bl w2 W6 := hb3.trans (hb.mono (by omega))
    refine ⟨k1.trans (hbb.mono (by omega)), (hbb.block _ (by omega)).trans k2, (hbb.block _ (by omega)).trans k3, (hb.block _ (by omega)).trans h0, ?_, ?_, ?_, ?_, k4⟩
    · rw [hw6]; exact (h1.alloc _).alloc _
    · rw [hw6]; exact h2.alloc _
    · rw [hw6]; exact h3
    · rw [hw6]; simp [hz3])
  clear hw6 hz3 HW3 HBL HA2
  go_wp2_with fail
  obtain ⟨hb6, bS, bM, bL, bT, bF, bK, hsz, hcl⟩ := HALL.out
  have hS := HS.out
  have hcW := HCC.out
  have hbt : ∀ q, BT q → q < c := fun q hq => by have := (hS.bt q hq).2; omega
  have hT6 : @TreeAt (mkHd (.int .i64 M.low) cv) (fun q => BT q ∨ q = bl + 1 + 2) W6 s ls := TreeAt.keep (hd := mkHd (.int .i64 M.low) cv) hS.tree fun q hq hl => ⟨hb6.block q (hbt q hq), .inl hq⟩
  have hst := range_seq (hd := mkHd (.int .i64 M.low) cv) 2 (bl + 1) (bl + 1 + 1) (bl + 1 + 2) (bl + 4) (fun q => BT q ∨ q = bl + 1 + 2) s ls fr to W6 (fun p => p ∈ ls.flatten) (fun q hq => hq.elim (fun h => by have := hbt q h; omega) (fun h => by omega)) (by omega) hT6 HV.out (fun p hp => hp) HV.out bT.cell bF.cell bK.cell bT.lt bF.lt (.inr rfl)
  rw [← hsz] at hst
  have HST := Lib.hid hst
  have HB6 := Lib.hid hb6
  have HSZ := Lib.hid (And.intro hsz hcl)
  have HI0 : Hid (SeI M.keys seq most W6 c (c + 1) bl [] W6) := Lib.hid ⟨bS, bM, ⟨none, 0, bL, rowk_nil _ _⟩, Below.refl _ _⟩
  have HBT := Lib.hid hbt
  clear hst hb6 bS bM bL bT bF bK hsz hcl HALL hS hT6 hbt hcW
  refine (wpIn_wide (n := 3)).1 ?_
  refine wpIn_join (id := 0) (fun D W' => Hid (SeE W6 L bl D W')) (fun _ _ h => h) ?rng ?rest
  case rng =>
    refine' wpIn_rangeR rfl (by omega) (gf := 143) (lb := #[.pointer (some ⟨bl + 1, 0, none⟩), .pointer (some ⟨bl + 1 + 1, 0, none⟩), .pointer (some ⟨bl + 1 + 2, 0, none⟩)]) rfl trivial (enters_of Try.func143 (by kernel_rfl) rfl)
      HST.out (fun h k => h.trans k) (KpB.turn (by have := HSZ.out; omega)) (Below.refl _ _) (fun _ => rfl)
      (fun pre W' => (pre = [] ∨ (foundK M.keys seq (pre.map Subtype.val)).length < most) ∧ SeI M.keys seq most W6 c (c + 1) bl (pre.map Subtype.val) W')
      (fun co pre W' => co = .exit 0 ∧ (foundK M.keys seq (pre.map Subtype.val)).length = most ∧ SeI M.keys seq most W6 c (c + 1) bl (pre.map Subtype.val) W')
      ?hI ?hIx ⟨.inl rfl, HI0.out⟩ _ ?assign ?body ?done ?stop
    case hI =>
      intro pre X Y row hs hg hr
      exact ⟨hs.1, SeI.own (by have := HSZ.out; omega) (by have := HSZ.out; omega) (by have := HSZ.out; omega) _ X Y row hs.2 hg hr⟩
    case hIx =>
      rintro co pre X Y row ⟨h1, h2, h3⟩ hg hr
      exact ⟨h1, h2, SeI.own (by have := HSZ.out; omega) (by have := HSZ.out; omega) (by have := HSZ.out; omega) _ X Y row h3 hg hr⟩
    case assign =>
      intro l x W K hK
      rw [fold2]
      simp only [List.setIfInBounds_toArray, List.set_cons_succ, List.set_cons_zero]
      repeat gi_step
      exact hK
    case body =>
      rintro l pre x W' ⟨hlt, hI⟩ hlen hbig
      obtain ⟨vs, za, zc, hmem, hx2, hrow⟩ := HPP.out x.1 x.2
      obtain ⟨xk, hxk⟩ : ∃ xk, x.1.1 = xk := ⟨_, rfl⟩
      obtain ⟨rs, hrs⟩ : ∃ rs, rs = pre.map Subtype.val := ⟨_, rfl⟩
      have hrs2 : (pre ++ [x]).map Subtype.val = rs ++ [x.1] := by rw [hrs, List.map_append, List.map_singleton]
      rw [← hrs] at hI hlt
      have HRS := Lib.hid hrs2
      have hm0 : 0 < most := HM3.out _ hlen
      have hlt2 : (foundK M.keys seq rs).length < most := by
        rcases hlt with h | h
        · rw [hrs, h]; simpa [foundK] using hm0
        · exact h
      have hver : verK M.keys seq x.1 = valM seq (xk, vs) := by
        unfold verK
        rw [look_in HRISE.out hmem, ← hxk]
        rfl
      have hvl := (HGOOD.out _ hmem)
      have hBW : Below c W W' := HB6.out.trans (hI.2.2.2.mono (by have := HSZ.out; omega))
      have HA : Hid (Calls Try.prog 57 #[.slice za vs.length zc, .int .i64 seq] W' fun e w4 => e = .returned (.tuple #[.string (atR vs (upN vs seq)).1, .bool (atR vs (upN vs seq)).2]) ∧ Hid (Below W'.heap.size W' w4)) := Lib.hid (by
        refine (at_any za zc vs seq W' (vers_of_row (hrow.below (by rw [← HCC.out]; exact hBW)) (Nat.le_trans hvl.2 (by omega))) (Nat.le_trans hvl.2 (by omega)) hvl.1).mono ?_
        rintro e w4 ⟨⟨r, hr, rfl⟩, hb⟩
        rw [upTo_is hr]
        exact ⟨rfl, Lib.hid hb⟩)
      obtain ⟨av, ab, hab⟩ : ∃ av ab, atR vs (upN vs seq) = (av, ab) := ⟨_, _, rfl⟩
      rw [hab] at HA
      have hval : valM seq (xk, vs) = if ab then some ⟨xk, av, false⟩ else none := by
        unfold valM
        rw [hab]
      have hcs := hI.1.cell
      have HIx := Lib.hid hI
      obtain ⟨F, hF⟩ : ∃ F, F = (foundK M.keys seq rs).length := ⟨_, rfl⟩
      rw [← hF] at hlt2
      have HBIG : Hid (W6.heap.size + 3 ≤ W'.heap.size) := Lib.hid (by omega)
      simp only [hx2, hxk]
      clear hI hlt hrow hmem hvl hBW hx2 hrs hlen hbig hrs2 hm0 hab
      cases ab with
      | false =>
        have HX : Hid (verK M.keys seq x.1 = none) := Lib.hid (by rw [hver, hval]; rfl)
        clear hver hval
        gi_wp2_with fail
        refine ⟨trivial, (CallsIn.inRound l (callsIn_wide.2 HA.out)).mono ?_⟩
        rintro e w4 ⟨rfl, hb4⟩
        have HZ := Lib.hid (se_skip (B := fun q => BT q ∨ q = bl + 1 + 2) HIx.out hb4.out (by have := HSZ.out; omega) HBIG.out HX.out)
        obtain ⟨_, k1, k2, ⟨a9, c9, k3, _⟩, _⟩ := HZ.out
        have hL1 : (foundK M.keys seq (rs ++ [x.1])).length = F := by rw [found_snoc, HX.out, hF]; simp
        rw [hL1] at k3
        have hc2 := k2.cell
        have hc3 := k3.cell
        have hne : ¬ ((F : Int) = (most : Int)) := by omega
        have HE : Hid ((foundK M.keys seq (rs ++ [x.1])).length < most) := Lib.hid (by omega)
        rw [← HRS.out] at HZ HE
        clear k1 k2 k3 hL1 hb4 HIx hcs HA hF
        gi_wp2
        exact ⟨⟨HZ.out.1.1.1, HZ.out.1.2, .inr HE.out, HZ.out.2⟩, HZ.out.1.1.2⟩
      | true =>
        have HX : Hid (verK M.keys seq x.1 = some ⟨xk, av, false⟩) := Lib.hid (by rw [hver, hval]; rfl)
        clear hver hval
        gi_wp2_with fail
        refine ⟨trivial, (CallsIn.inRound l (callsIn_wide.2 HA.out)).mono ?_⟩
        rintro e w4 ⟨rfl, hb4⟩
        obtain ⟨v, hv, a2, c2, W2, hrun, ⟨u, hu⟩, hfz, hc3, hc2, HZ⟩ := se_add (B := fun q => BT q ∨ q = bl + 1 + 2) HIx.out hb4.out (by have := HSZ.out; omega) (by have := HSZ.out; omega) (by have := HSZ.out; omega) (fun q hq hq2 => hq.elim (fun h => by have := HBT.out q h; have := HSZ.out; omega) (fun h => by omega)) HBIG.out (by omega) HX.out
        rw [← hF] at hrun hc3 hc2 HZ
        simp only at hrun
        have hne : F + 1 = most ∨ ¬ (((F + 1 : Nat) : Int) = (most : Int)) := by omega
        obtain ⟨WZ, hWZ⟩ : ∃ WZ, WZ = W2.setCell ⟨bl, 0, none⟩ (.slice a2 (F + 1) c2) := ⟨_, rfl⟩
        have HWZ := Lib.hid hWZ
        rw [← hWZ, ← HRS.out] at HZ
        clear hb4 HIx hcs HA hF hWZ
        rcases hne with hne | hne
        · subst hne
          gi_wp2
          rw [← HWZ.out]
          exact ⟨⟨HZ.out.2.1.1.1, rfl, HZ.out.1, HZ.out.2.2⟩, HZ.out.2.1.1.2⟩
        · have HE : Hid (F + 1 < most) := Lib.hid (by omega)
          gi_wp2
          rw [← HWZ.out]
          exact ⟨⟨HZ.out.2.1.1.1, HZ.out.2.1.2, .inr (by rw [HZ.out.1]; exact HE.out), HZ.out.2.2⟩, HZ.out.2.1.1.2⟩
    case done =>
      rintro D ys W' hD e ⟨h1, k1, k2, ⟨a, c2, k3, k4⟩, k5⟩ hK
      have hl := HDONE.out _ e (h1.imp (fun h => by rw [h]; rfl) id)
      rw [hl] at k3 k4
      exact ⟨.inl rfl, D, rfl, Lib.hid ⟨hD, hK, ⟨a, c2, k3, k4⟩, k5⟩⟩
    case stop =>
      rintro D co pre W' hD hsp ⟨rfl, h1, k1, k2, ⟨a, c2, k3, k4⟩, k5⟩ hK
      have hl := HSTOP.out _ hsp h1
      rw [hl] at k3 k4
      exact wpIn_exit ⟨.inr rfl, D, rfl, Lib.hid ⟨hD, hK, ⟨a, c2, k3, k4⟩, k5⟩⟩
  case rest =>
    rintro D W' HE
    obtain ⟨hD, hK, ⟨a, c2, k3, k4⟩, k5⟩ := HE.out
    have hcl := k3.cell
    have HF : Hid (Q (.returned (.slice a L.length c2)) (W'.putObj D (.deferred none))) := Lib.hid (by
      have hsz := HSZ.out
      refine HFIN.out a c2 _ ((k4.keep (B' := c) fun q hq => ⟨World.putObj_heap_other ?_, ?_⟩)) ?_
      · intro e
        rw [e] at hq
        obtain ⟨arr, hb⟩ := rowk_box k4 hq
        rw [show W'.heap[D]? = some (.cells arr 48 (0, 0)) from hb] at hK
        cases hK
      · have := (k4.lt q hq).1
        omega
      · have h1 : Below c W W' := HB6.out.trans (k5.mono (by omega))
        exact h1.trans (belowK_b (w := W) (by have := HCC.out; omega) _ D _ _ (by have := h1.size; have := HB6.out.size; omega) hK rfl rfl))
    clear HE hD k3 k4 k5
    go_wp2_with fail
    refine ⟨by simp, .inl ⟨_, _, rfl, run_takeDeferred hK, ?_⟩⟩
    refine ⟨.slice a L.length c2, ?_, HF.out⟩
    simp [results, Try.f59, go_sem]

end Go.Proofs.Ytcebnoapgceodaa.sT
