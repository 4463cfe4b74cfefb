/-
  mailbaglaw09.List and made: commits in memory, and a store behind them.
-/
import Derived.Test.YtcebnoapgceodaaStSm
namespace Go.Proofs.Ytcebnoapgceodaa.sT
open Go.RowKit Go.Proofs.Ytcebnoapgceodaa.tC

set_option linter.unusedVariables false
set_option linter.unusedSimpArgs false

/-- commits in memory that the call owns -/
def CmsOwn (n0 : Nat) (W : World) (v : Value) (cs : List CmM) : Prop := ∃ wvs, RowK 45 3 n0 W v cs.length (cmrow wvs cs) ∧ CmsAt (fun q => n0 ≤ q) W wvs cs
theorem CmsOwn.is {n0 : Nat} {W : World} {a : Option Addr} {c : Nat} {cs : List CmM} (h : CmsOwn n0 W (.slice a cs.length c) cs) : CIs W a cs := by
  obtain ⟨wvs, h1, h2⟩ := h
  exact cms_is (RowO.of (h1.keep fun q hq => ⟨rfl, Nat.zero_le _⟩)) h2
theorem CmsOwn.below {n0 : Nat} {W W' : World} {v : Value} {cs : List CmM} (h : CmsOwn n0 W v cs) (hb : Below W.heap.size W W') : CmsOwn n0 W' v cs := by
  obtain ⟨wvs, h1, h2⟩ := h
  have lt : ∀ {l : List Value} {cs : List CmM}, CmsAt (fun q => n0 ≤ q) W l cs → CmsAt (fun q => n0 ≤ q ∧ q < W.heap.size) W l cs := fun {l cs} => by
    induction l generalizing cs with
    | nil => cases cs with
      | nil => exact fun _ => trivial
      | cons _ _ => exact fun h => h.elim
    | cons v r ih => cases cs with
      | nil => exact fun h => h.elim
      | cons c q => exact fun ⟨h1, h2⟩ => ⟨⟨h1.1, fun b hb => ⟨h1.2 b hb, (h1.1.lt b hb).2⟩⟩, ih h2⟩
  exact ⟨wvs, h1.below hb, (lt h2).keep fun q hq => ⟨hb.block q hq.2, hq.1⟩⟩

/-- an append of one commit -/
theorem CmsOwn.app {n0 : Nat} {W : World} {v : Value} {cs : List CmM} (h : CmsOwn n0 W v cs) (c : CmM) {wa : Option Addr} {wc : Nat} (hw : RowK 48 3 n0 W (.slice wa c.ws.length wc) c.ws.length (c.ws.flatMap wrcells)) {p : Nat} (hp : W.heap[p]? = some (.cells #[.int .i64 c.seq, .int .i64 c.at_, .slice wa c.ws.length wc] 45)) (hl : cs.length ≤ 1000000) (hn : n0 ≤ W.heap.size) (ty : TypeId) :
    ∃ a2 c2 W2, (Builtin.append_ #[27, 27] ty #[v, .slice (some ⟨p, 0, none⟩) 1 1]).run Try.prog W = .ok (.slice a2 (cs.length + 1) c2) W2 ∧ CmsOwn n0 W2 (.slice a2 (cs.length + 1) c2) (cs ++ [c]) ∧ W.grownBy W2 v.ownBlock := by
  obtain ⟨wvs, h1, h2⟩ := h
  obtain ⟨i, hi, hz, hi1, hi2⟩ := info_parts infoCm
  have hlen := h2.len
  obtain ⟨v', W2, hr, ho, hu⟩ := run_app (P := Try.prog) W n0 27 ty 45 i _ 3 40 Try.underlying27 hi hz hi1 hi2 rfl (by decide) v cs.length (cmrow wvs cs) h1.1 ⟨p, 0, none⟩ 1 1 [.int .i64 c.seq, .int .i64 c.at_, .slice wa c.ws.length wc] rfl (fun j u hj => World.news_of_block hp j u (by simpa using hj)) (fun u hu => by simp at hu; rcases hu with rfl | rfl | rfl <;> rfl) (by unfold maxLen; omega) (by omega) hn
  have hm : RowK 45 3 n0 W2 v' (cs.length + 1) (cmrow (wvs ++ [.slice wa c.ws.length wc]) (cs ++ [c])) := by
    rw [cmrow_app _ _ _ _ hlen]
    refine ⟨ho, fun u hu => ?_⟩
    rcases List.mem_append.1 hu with hu | hu
    · exact h1.2 u hu
    · simp at hu; rcases hu with rfl | rfl | rfl <;> rfl
  obtain ⟨a2, c2, rfl, _⟩ := hm.form
  have hfar : ∀ q, q < W.heap.size → (∃ arr, Box W q 48 arr) → W2.heap[q]? = W.heap[q]? := fun q hq hb => hu.1.block q hq fun e => by
    obtain ⟨arr, h3⟩ := hb
    obtain ⟨arr2, h4⟩ := rowk_box h1 e.symm
    exact box_ne h3 h4 (by decide) rfl
  refine ⟨a2, c2, W2, hr, ⟨wvs ++ [.slice wa c.ws.length wc], by rw [List.length_append, List.length_singleton]; exact hm, CmsAt.append ⟨hw.keep fun q hq => ⟨hfar q (hw.lt q hq).2 (rowk_box hw hq), Nat.zero_le _⟩, fun q hq => (hw.lt q hq).1⟩ ?_⟩, hu.1⟩
  have lt : ∀ {l : List Value} {cs : List CmM}, CmsAt (fun q => n0 ≤ q) W l cs → CmsAt (fun q => n0 ≤ q ∧ q < W.heap.size) W l cs := fun {l cs} => by
    induction l generalizing cs with
    | nil => cases cs with
      | nil => exact fun _ => trivial
      | cons _ _ => exact fun h => h.elim
    | cons v r ih => cases cs with
      | nil => exact fun h => h.elim
      | cons c q => exact fun ⟨h1, h2⟩ => ⟨⟨h1.1, fun b hb => ⟨h1.2 b hb, (h1.1.lt b hb).2⟩⟩, ih h2⟩
  exact (lt h2).keepB fun q hq hb => ⟨hfar q hq.2 hb, hq.1⟩

/-- what List answers -/
def ListP (W : World) (first : Int) (wss : List (List Wr)) (e : Ending) (W' : World) : Prop := ∃ a c, e = .returned (.slice a wss.length c) ∧ CmsOwn W.heap.size W' (.slice a wss.length c) (listC first wss) ∧ Below W.heap.size W W'
def LsI (W : World) (first : Int) (wss : List (List Wr)) (z : Nat) (v : Value) (wr : World) : Prop := CmsOwn W.heap.size wr v (listC first (wss.take z)) ∧ Below W.heap.size W wr ∧ (∀ q, v.ownBlock = some q → W.heap.size ≤ q)

theorem ls_step {W wr : World} {first : Int} {wss : List (List Wr)} {z : Nat} {va : Option Addr} {vc : Nat} (h : LsI W first wss z (.slice va z vc) wr) (hz : z < wss.length) (hl : wss.length ≤ 1000000) {wa : Option Addr} {wl wc : Nat} (hwl : wl = (wss[z]).length) (hw : WrsIs wr wa wss[z]) (hs : SizedW wss[z]) (hcap : wl ≤ 9223372036854775807) (ty : TypeId) :
    Calls Try.prog 14 #[.slice wa wl wc] wr fun e w2 => ∃ xa xl xc, e = .returned (.slice xa xl xc) ∧
      Hid (∃ a2 c2 W2, (Builtin.append_ #[27, 27] 27 #[.slice va z vc, .slice (some ⟨w2.heap.size, 0, none⟩) 1 1]).run Try.prog (w2.alloc (.cells #[.int .i64 (first + (z : Int)), .int .i64 (10 * (z : Int)), .slice xa xl xc] 45)) = .ok (.slice a2 (z + 1) c2) W2 ∧ Hid (LsI W first wss (z + 1) (.slice a2 (z + 1) c2) W2)) := by
  obtain ⟨h1, h2, h3⟩ := h
  refine (some_any (cap := wc) hw hwl.symm hcap hs).mono ?_
  rintro e w2 ⟨xa, xc, rfl, k1, k2⟩
  refine ⟨xa, _, xc, rfl, Lib.hid ?_⟩
  have hbA : Below w2.heap.size w2 (w2.alloc (.cells #[.int .i64 (first + (z : Int)), .int .i64 (10 * (z : Int)), .slice xa (someW wss[z]).length xc] 45)) := (Below.refl _ _).alloc (Nat.le_refl _) _
  have hlz : (listC first (wss.take z)).length = z := by rw [listC_len, List.length_take]; omega
  have hbb : Below wr.heap.size wr (w2.alloc (.cells #[.int .i64 (first + (z : Int)), .int .i64 (10 * (z : Int)), .slice xa (someW wss[z]).length xc] 45)) := k2.trans (hbA.mono k2.size)
  have hz2 := h2.size
  have hz3 := hbb.size
  obtain ⟨a2, c2, W2, hrun, hown, hg⟩ := (h1.below hbb).app (⟨first + (z : Int), 10 * (z : Int), someW wss[z]⟩ : CmM) ((k1.below hbA).keep fun q hq => ⟨rfl, Nat.le_trans hz2 (k1.lt q hq).1⟩) (heap_alloc_new w2 _) (by omega) (by omega) 27
  rw [hlz] at hrun hown
  have e : listC first (wss.take (z + 1)) = listC first (wss.take z) ++ [⟨first + (z : Int), 10 * (z : Int), someW wss[z]⟩] := by
    rw [List.take_succ_eq_append_getElem hz, listC_snoc, List.length_take, Nat.min_eq_left (by omega)]
  refine ⟨a2, c2, W2, hrun, Lib.hid ⟨by rw [e]; exact hown, ?_, fun q hq => ?_⟩⟩
  · exact (h2.trans (hbb.mono hz2)).grown hg (by omega) fun q hq => h3 q hq
  · obtain ⟨wvs, k3, _⟩ := hown
    have hln : (listC first (wss.take z) ++ [(⟨first + (z : Int), 10 * (z : Int), someW wss[z]⟩ : CmM)]).length = z + 1 := by rw [List.length_append, hlz]; rfl
    rw [hln] at k3
    exact (k3.lt q hq).1

attribute [-go_sem] Builtin.append_
set_option maxHeartbeats 1000000 in
set_option maxRecDepth 100000 in
theorem list_any {W : World} (first : Int) {a : Option Addr} {len cap : Nat} {wss : List (List Wr)} (h : WwsCame W a len wss) (hle : len ≤ 1000) (hf0 : 0 ≤ first) (hf1 : first ≤ 1000000) :
    Calls Try.prog 15 #[.int .i64 first, .slice a len cap] W (ListP W first wss) := by
  obtain ⟨hl, hw, hs⟩ := h
  subst hl
  have HW := Lib.hid (And.intro hw hs)
  have H0 : Hid (LsI W first wss 0 (.slice (some ⟨W.heap.size, 0, none⟩) 0 0) (W.alloc (.cells #[] 45))) := Lib.hid ⟨⟨[], RowK.mk (c := 0) (Box.new W 45 #[]) rfl (Nat.le_refl _) (Nat.le_refl _) (by omega) rfl (fun q hq => absurd hq (by simp [listC])) (fun u hu => by simp [cmrow] at hu), trivial⟩, (Below.refl _ _).alloc (Nat.le_refl _) _, fun q hq => by
    have h9 : some W.heap.size = some q := hq
    injection h9 with h9
    omega⟩
  obtain ⟨Q, hQ⟩ : ∃ Q, Q = ListP W first wss := ⟨_, rfl⟩
  have HQ := Lib.hid hQ
  rw [← hQ]
  clear hw hs hQ
  go_enter Try.func15, Try.ntmps15
  go_wp2_with fail
  go_loopw [11, 5] (fun iv v wr => ∃ z : Nat, z ≤ wss.length ∧ iv = .int .i64 (z : Int) ∧ (∃ va vc, v = .slice va z vc) ∧ Hid (LsI W first wss z v wr)) (fun iv _ _ => wss.length - (intOf iv).toNat)
  case atStart => exact ⟨0, Nat.zero_le _, rfl, ⟨_, _, rfl⟩, H0⟩
  case round =>
    obtain ⟨z, hz, rfl, ⟨va, vc, rfl⟩, hst⟩ := hrel
    clear H0
    by_cases hzl : z < wss.length
    · have hzI : (z : Int) < (wss.length : Int) := by omega
      have hlow : Below W.heap.size W wr := hst.out.2.1
      rcases HW.out.1 with he | ⟨b2, off2, ea, hblt2, hv⟩
      · exact absurd hzl (by rw [he]; simp)
      subst ea
      obtain ⟨wa, wc, m0, hws⟩ := hv z hzl
      replace m0 := (hlow.cell (p := ⟨b2, off2 + z, none⟩) hblt2).trans m0
      obtain ⟨hsz, hln⟩ := HW.out.2 _ (List.getElem_mem hzl)
      obtain ⟨wl, hwl⟩ : ∃ wl, wl = (wss[z]).length := ⟨_, rfl⟩
      rw [← hwl] at m0 hln
      have HST := Lib.hid (ls_step (wc := wc) hst.out hzl (by omega) hwl (hws.below hlow) hsz hln 27)
      have hw1 : IntKind.i64.wrap (first + (z : Int)) = first + (z : Int) := by rw [IntKind.wrap_i64]; omega
      have hw2 : IntKind.i64.wrap (10 * (z : Int)) = 10 * (z : Int) := by rw [IntKind.wrap_i64]; omega
      clear hws hsz hln hwl hst hlow hv
      go_wp2_with fail
      refine HST.out.mono ?_
      rintro e w2 ⟨xa, xl, xc, rfl, hX⟩
      obtain ⟨a2, c2, W2, hrun, HN⟩ := hX.out
      clear HST hX
      go_wp2_with fail
      go_roundw
      case rel => exact ⟨z + 1, by omega, by go_num, ⟨_, _, rfl⟩, HN⟩
      case measure => simp [intOf]; omega
    · obtain rfl : z = wss.length := by omega
      have hzI : ¬ (wss.length : Int) < (wss.length : Int) := by omega
      have HF : Hid (Q (.returned (.slice va wss.length vc)) wr) := Lib.hid (by
        rw [HQ.out]
        have := hst.out
        unfold LsI at this
        rw [List.take_length] at this
        exact ⟨_, _, rfl, this.1, this.2.1⟩)
      clear hst hzl hz HW HQ
      go_wp2
      first | exact HF.out | (go_ret; exact HF.out)

/-- what made answers -/
def MadeI (W : World) (s first : Nat) (base : List Wr) (cs : List CmM) (z : Nat) (wr : World) : Prop := Sep W.heap.size (fun _ => False) wr s (madeM first base (cs.take z)) ∧ Below W.heap.size W wr

theorem made_step {W wr : World} {s first : Nat} {base : List Wr} {cs : List CmM} {z : Nat} (h : MadeI W s first base cs z wr) (ht : Takes first base cs) {N : Nat} (hN : ∀ c ∈ cs, c.ws.length ≤ N) (hz : z < cs.length) (hb : base.length + cs.length * (N + 1) < 30000) {sq at_ : Int} {ws : List Wr} (e : cs[z] = ⟨sq, at_, ws⟩) {wa : Option Addr} {wc : Nat} (hw : WrsIs W wa ws) (hNk : N < 10000) :
    ∀ w1, Below wr.heap.size wr w1 → Calls Try.prog 49 #[.pointer (some ⟨s, 0, none⟩), .agg #[.int .i64 sq, .int .i64 at_, .slice wa ws.length wc]] w1 fun e W' => e = .returned (.int .i64 0) ∧ Hid (MadeI W s first base cs (z + 1) W') := fun w1 hb1 => by
  obtain ⟨h1, h2⟩ := h
  have hg := SG.made ht N hN z (by omega)
  have hf := ht.2 z hz
  have hl := hN _ (List.getElem_mem hz)
  rw [e] at hf hl
  simp only at hf hl
  have hbb : Below W.heap.size W w1 := h2.trans (hb1.mono h2.size)
  have hmul : z * (N + 1) + (N + 1) ≤ cs.length * (N + 1) := by rw [← Nat.succ_mul]; exact Nat.mul_le_mul_right _ hz
  have hfar : ws = [] ∨ ∀ b off, wa = some ⟨b, off, none⟩ → b < W.heap.size ∨ False := by
    rcases hw with hw | ⟨b, off, ea, hlt, _⟩
    · exact .inl hw
    · refine .inr fun b2 off2 e2 => .inl ?_
      rw [ea] at e2
      injection e2 with e2
      injection e2 with e2
      omega
  refine (sep_commit (cap := wc) ((h1.below hb1).less (K' := fun _ => False) fun q hq => hq.elim) hg sq at_ (hw.below hbb) rfl (by omega) hfar).mono ?_
  · rintro e2 W' ⟨hk, ⟨c1, _⟩ | ⟨_, c2, c3⟩⟩
    · rw [hf] at c1; cases c1
    · refine ⟨c2, Lib.hid ⟨?_, hbb.trans hk.below⟩⟩
      rw [List.take_succ_eq_append_getElem hz, madeM_snoc, e]
      exact c3

set_option maxHeartbeats 1000000 in
set_option maxRecDepth 100000 in
theorem made_any {W : World} (first : Nat) {ba : Option Addr} {bl bc : Nat} {base : List Wr} (hb : WrsIs W ba base) (hbl : base.length = bl) {a : Option Addr} {len cap : Nat} {cs : List CmM} (h : CIs W a cs) (hl : cs.length = len) (ht : Takes first base cs) {N : Nat} (hN : ∀ c ∈ cs, c.ws.length ≤ N) (hsz : base.length + cs.length * (N + 1) < 30000) (hN9 : N < 10000) :
    Calls Try.prog 16 #[.int .i64 (first : Int), .slice ba bl bc, .slice a len cap] W fun e W' => ∃ s, e = .returned (.tuple #[.pointer (some ⟨s, 0, none⟩), .bool true]) ∧ Hid (Sep W.heap.size (fun _ => False) W' s (madeM first base cs) ∧ Below W.heap.size W W') := by
  subst hl
  have HN : Hid (Calls Try.prog 33 #[.int .i64 (first : Int), .slice ba bl bc] W fun e W' => ∃ s, e = .returned (.tuple #[.pointer (some ⟨s, 0, none⟩), .int .i64 0]) ∧ Hid (MadeI W s first base cs 0 W')) := Lib.hid (by
    refine (sep_new (n0 := W.heap.size) (cap := bc) (first : Int) hb hbl (by omega)).mono ?_
    rintro e W' ⟨hb1, ⟨h1, _⟩ | ⟨_, s, lo, h2, _, h3, h4⟩⟩
    · rw [ht.1] at h1; cases h1
    · obtain rfl : lo = first := by omega
      exact ⟨s, h3, Lib.hid ⟨h4, hb1⟩⟩)
  have hcl : cs.length ≤ 30000 := by have := Nat.le_mul_of_pos_right cs.length (show 0 < N + 1 by omega); omega
  have HX := Lib.hid (And.intro h (And.intro ht (And.intro hN hsz)))
  clear h ht hN hb hsz
  go_enter Try.func16, Try.ntmps16
  go_wp2_with fail
  refine HN.out.mono ?_
  rintro e w1 ⟨s, rfl, H0⟩
  clear HN
  go_wp2_with fail
  go_loopw [22] (fun iv wr => ∃ z : Nat, z ≤ cs.length ∧ iv = .int .i64 (z : Int) ∧ Hid (MadeI W s first base cs z wr)) (fun iv _ => cs.length - (intOf iv).toNat)
  case atStart => exact ⟨0, Nat.zero_le _, rfl, H0⟩
  case round =>
    obtain ⟨z, hz, rfl, hst⟩ := hrel
    clear H0
    by_cases hzl : z < cs.length
    · have hzI : (z : Int) < (cs.length : Int) := by omega
      have hlow : Below W.heap.size W wr := hst.out.2
      rcases HX.out.1 with he | ⟨b2, off2, ea, hblt2, hv⟩
      · exact absurd hzl (by rw [he]; simp)
      subst ea
      obtain ⟨m0, m1, wa, wc, m2, hws⟩ := hv z hzl
      replace m0 := (hlow.cell (p := ⟨b2, off2 + z * 3, none⟩) hblt2).trans m0
      replace m1 := (hlow.cell (p := ⟨b2, off2 + z * 3 + 1, none⟩) hblt2).trans m1
      replace m2 := (hlow.cell (p := ⟨b2, off2 + z * 3 + 2, none⟩) hblt2).trans m2
      obtain ⟨x, hx⟩ : ∃ x, x = cs[z] := ⟨_, rfl⟩
      rw [← hx] at m0 m1 m2 hws
      obtain ⟨sq, at_, ws⟩ := x
      simp only at m0 m1 m2 hws
      have HC := Lib.hid (made_step (wc := wc) hst.out HX.out.2.1 HX.out.2.2.1 hzl HX.out.2.2.2 hx.symm hws hN9 (wr.alloc (.cells #[.int .i64 sq, .int .i64 at_, .slice wa ws.length wc] 45)) ((Below.refl _ _).alloc (Nat.le_refl _) _))
      obtain ⟨wl, hwl⟩ : ∃ wl, wl = ws.length := ⟨_, rfl⟩
      rw [← hwl] at m2 HC
      clear hx hws hst hlow hv hwl
      go_wp2_with fail
      refine HC.out.mono ?_
      rintro e w2 ⟨rfl, HN2⟩
      clear HC
      go_wp2_with fail
      go_roundw
      case rel => exact ⟨z + 1, by omega, by go_num, HN2⟩
      case measure => simp [intOf]; omega
    · obtain rfl : z = cs.length := by omega
      have hzI : ¬ (cs.length : Int) < (cs.length : Int) := by omega
      have HF : Hid (Sep W.heap.size (fun _ => False) wr s (madeM first base cs) ∧ Below W.heap.size W wr) := Lib.hid (by
        have := hst.out
        unfold MadeI at this
        rwa [List.take_length] at this)
      clear hst hzl hz HX
      go_wp2
      first | exact ⟨s, rfl, HF⟩ | (go_ret; exact ⟨s, rfl, HF⟩) | (refine bodyPost_ret (v := .tuple #[.pointer (some ⟨s, 0, none⟩), .bool true]) (by simp [results, Try.results16, go_sem]) rfl ⟨s, rfl, HF⟩)

end Go.Proofs.Ytcebnoapgceodaa.sT
