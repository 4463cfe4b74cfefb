/-
  TreeEnds: the first key from any one on, and the last one ahead of it.
-/
import Derived.Test.YtkohmiegkebmeaaTRngs
namespace Go.Proofs.Ytkohmiegkebmeaa.treeEnds
open Go.RowKit Go.Proofs.Ytkohmiegkebmeaa.tI Go.Proofs.Ytkohmiegkebmeaa.tP Go.Proofs.Ytkohmiegkebmeaa.rgR Go.Proofs.Ytkohmiegkebmeaa.treeActs
open Go.Proofs.Ytkohmiegkebmeaa.treeRanges (fold2 same_set wpIn_join)

set_option linter.unusedVariables false
set_option linter.unusedSimpArgs false
attribute [local go_sem] Oper.semAt_some
attribute [local irreducible] wpStill

/-- the world behind play: the key in a box; the tree and the list -/
def SE (w W : World) (p n q t : Nat) (a : Option Addr) (c : Nat) (ps : List PI) (key : ByteArray) : Prop :=
  Boxed W p 9 (.string key) ∧ Below w.heap.size w W ∧ (∃ ls, TreeAt (fun x => n ≤ x ∧ x < q) W t ls ∧ ls.flatten = kv ps) ∧ MRow W n (.slice a ps.length c) ps ∧ (∀ x, (Value.slice a ps.length c).ownBlock = some x → x < q) ∧ (w.heap.size = p ∧ p < n ∧ n ≤ q ∧ q ≤ W.heap.size)
theorem SE.below {w W W' : World} {p n q t : Nat} {a : Option Addr} {c : Nat} {ps : List PI} {key : ByteArray} (h : SE w W p n q t a c ps key) (hb : Below q W W') : SE w W' p n q t a c ps key := by
  obtain ⟨h1, h3, ⟨ls, h4, e⟩, h5, h6, h7, h8, h9, h10⟩ := h
  exact ⟨(hb.block p (by omega)).trans h1, h3.trans (hb.mono (by omega)), ⟨ls, h4.keep fun x hx _ => ⟨hb.block x (by have := hx.2; omega), hx⟩, e⟩, h5.keep fun x hx => hb.block x (by have := h6 x hx; omega), h6, h7, h8, h9, Nat.le_trans h10 hb.size⟩
theorem SE.made {w w2 w4 : World} {t : Nat} {a : Option Addr} {c : Nat} {ps : List PI} {k : Nat} {key : ByteArray} (hb : Below w.heap.size w w2) (hm : Boxed w2 w.heap.size 9 (.string key)) (h : PlB w2 w4 t (.slice a ps.length c) ps k) :
    SE w w4 w.heap.size w2.heap.size w4.heap.size t a c ps key := by
  obtain ⟨h1, h2, ⟨ls, h3, e⟩, h4⟩ := h
  have hz := h1.size
  have hlt := hm.lt
  exact ⟨(h1.block _ hlt).trans hm, (hb.trans (h1.mono hb.size)), ⟨ls, h3.keep fun x hx hl => ⟨rfl, hx.1, hl⟩, e⟩, h4, fun x hx => (World.ownsRow.lt h4 x hx).2, rfl, hlt, hz, Nat.le_refl _⟩

/-- what the first loop found -/
def FirstP (ps : List PI) (key fs : ByteArray) (fb : Bool) : Prop := fb = decide (atK ps key < ps.length) ∧ ∀ h : atK ps key < ps.length, fs = (ps[atK ps key]).1
/-- what the second loop found -/
def LastP (ps : List PI) (key ls : ByteArray) : Prop := ∀ h : 0 < atK ps key, ls = (ps[atK ps key - 1]'(by have := at_le ps key; omega)).1

/-- one was told, and its key is kept -/
def OneP (pre : List { p : KV // IsV p.2 }) (W : World) (q : Nat) : Prop := ∃ x : { p : KV // IsV p.2 }, pre = [x] ∧ Boxed W q 9 (.string x.1.1)

theorem kv_at (ps : List PI) (i : Nat) (h : i < ps.length) : (kv ps)[i]? = some ((ps[i]).1, .int .i64 (ps[i]).2) := by simp [kv, h]

theorem first_none {ps : List PI} {key : ByteArray} (h : kv (ps.drop (atK ps key)) = []) : FirstP ps key ⟨#[]⟩ false := by
  have h1 := congrArg List.length h
  rw [kv_length, List.length_drop, List.length_nil] at h1
  have h2 : ¬ atK ps key < ps.length := by omega
  exact ⟨by simp [h2], fun h => absurd h h2⟩
theorem first_some {ps : List PI} {key : ByteArray} {x : KV} (h : [x] <+: kv (ps.drop (atK ps key))) : FirstP ps key x.1 true := by
  obtain ⟨r, hr⟩ := h
  have h1 := congrArg List.length hr
  rw [kv_length, List.length_drop] at h1
  simp only [List.length_append, List.length_cons, List.length_nil] at h1
  have h2 : atK ps key < ps.length := by omega
  refine ⟨by simp [h2], fun _ => ?_⟩
  have h3 := congrArg (fun l => l[0]?) hr
  simp only [List.singleton_append, List.getElem?_cons_zero] at h3
  rw [kv_at _ 0 (by rw [List.length_drop]; omega)] at h3
  rw [Option.some.inj h3]
  simp
theorem at_nil {ps : List PI} {key : ByteArray} (h : (key.toList == ([] : List UInt8)) = true) : atK ps key = 0 := by
  obtain rfl : key = ⟨#[]⟩ := (same_key key ⟨#[]⟩).1 (by rw [show (⟨#[]⟩ : ByteArray).toList = [] from by rw [Lib.toList_data]]; exact h)
  unfold atK atB
  refine List.countP_eq_zero.2 fun x _ => ?_
  have : ¬ Lt x ⟨#[]⟩ := by unfold Lt; exact List.not_lt_nil _
  simp [this]
theorem last_of {ps : List PI} {key ls : ByteArray} {pre : List { p : KV // IsV p.2 }} (h : pre.map Subtype.val = kv (ps.take (atK ps key))) (hl : ∀ ini x, pre = ini ++ [x] → ls = x.1.1) : pre.length = atK ps key ∧ LastP ps key ls := by
  have hle := at_le ps key
  have h1 := congrArg List.length h
  rw [List.length_map, kv_length, List.length_take] at h1
  have h2 : pre.length = atK ps key := by omega
  refine ⟨h2, fun h0 => ?_⟩
  obtain ⟨ini, x, rfl⟩ : ∃ ini x, pre = ini ++ [x] := by
    rcases List.eq_nil_or_concat pre with e | ⟨ini, x, e⟩
    · rw [e] at h2; simp at h2; omega
    · exact ⟨ini, x, by rw [e, List.concat_eq_append]⟩
  rw [hl ini x rfl]
  have h3 := congrArg (fun l => l[atK ps key - 1]?) h
  have h4 : ini.length = atK ps key - 1 := by rw [List.length_append, List.length_singleton] at h2; omega
  simp only [List.map_append, List.map_singleton] at h3
  rw [kv_at _ _ (by rw [List.length_take]; omega), List.getElem?_append_right (by rw [List.length_map]; omega), List.length_map, h4, Nat.sub_self] at h3
  have h5 := Option.some.inj h3
  rw [h5]
  simp

set_option maxHeartbeats 8000000 in
set_option maxRecDepth 100000 in
theorem walk_main {w : World} (a : Option Addr) (la ca : Nat) (vs : List AC) (wa : ActsCame w a la ca vs) (key : ByteArray) (wk : key.size ≤ maxLen) :
    Calls Try.prog 7 #[.slice a la ca, .string key] w fun e W' => e = .returned (.bool true) ∧ Below w.heap.size w W' := by
  obtain ⟨w0, hw0⟩ : ∃ w0, w0 = w.alloc (.cells #[.string key] 9) := ⟨_, rfl⟩
  have hb0 : Below w.heap.size w w0 := by rw [hw0]; exact (Below.refl _ w).alloc (Nat.le_refl _) _
  have hM0 : Boxed w0 w.heap.size 9 (.string key) := by rw [hw0]; exact Boxed.new w _ _
  have HW0 := Lib.hid hw0
  have HP0 := Lib.hid (And.intro hb0 hM0)
  obtain ⟨hl, hlc, hmx, hai, hvok⟩ := wa
  clear hvok hw0 hb0 hM0
  have HH : Hid (∀ W, Calls Try.prog 9 #[] W fun e w' => e = .returned (.bool true) ∧ Below W.heap.size W w') := Lib.hid tI.head_any
  have HFW : Hid (∀ W, Below w.heap.size w W → Calls Try.prog 10 #[.slice a la ca] W fun e w' => e = .returned (.bool (fewA vs)) ∧ Below W.heap.size W w') := Lib.hid fun W hb => few_any (hai.below hb) hl (Nat.le_trans hlc hmx)
  by_cases hout : fewA vs = false ∨ 60 < key.size
  · have hc2 : (fewA vs = false) ∨ (fewA vs = true ∧ (60 : Int) < (key.size : Int)) := by
      cases hfa : fewA vs with
      | false => exact .inl rfl
      | true => exact .inr ⟨rfl, by rcases hout with h | h; (rw [hfa] at h; cases h); omega⟩
    clear hai hout
    obtain ⟨fa, hfa⟩ : ∃ fa, fa = fewA vs := ⟨_, rfl⟩
    rw [← hfa] at HFW hc2
    clear hfa
    rcases hc2 with rfl | ⟨rfl, h60⟩
    all_goals
      go_enter Try.func7, Try.ntmps7
      go_wp2_with fail
      rw [← HW0.out]
      refine (HH.out _).mono ?_
      rintro e w1 ⟨rfl, hb1⟩
      have HB1 := Lib.hid (And.intro (HP0.out.1.trans (hb1.mono HP0.out.1.size)) (show Boxed w1 w.heap.size 9 (.string key) from (hb1.block _ HP0.out.2.lt).trans HP0.out.2))
      have HF1 := Lib.hid (HFW.out w1 HB1.out.1)
      clear hb1
      go_wp2_with fail
      refine HF1.out.mono ?_
      rintro e w2 ⟨rfl, hb2⟩
      have hc : w2.cell? ⟨w.heap.size, 0, none⟩ = some (.string key) := (show Boxed w2 w.heap.size 9 (.string key) from (hb2.block _ HB1.out.2.lt).trans HB1.out.2).cell
      have HB2 := Lib.hid (HB1.out.1.trans (hb2.mono HB1.out.1.size))
      clear hb2 HF1
      go_wp2
      go_ret
      exact ⟨rfl, HB2.out⟩
  have hfa : fewA vs = true := by
    cases h : fewA vs with
    | true => rfl
    | false => exact absurd (.inl h) hout
  have h60I : ¬ (60 : Int) < (key.size : Int) := by omega
  have hfew := fewA_of hfa
  rw [hfa] at HFW
  have HPL : Hid (∀ W, Below w.heap.size w W → Calls Try.prog 11 #[.slice a la ca] W (PlayP W la)) := Lib.hid fun W hb => play_any (hai.below hb) hl (by omega)
  have hpl : la ≤ 200 := by omega
  clear hai hout hfa hfew
  refine (callsIn_wide (n := 3)).1 (callsIn_of_wp_marks Try.func7 rfl trivial ?_)
  simp only [Try.ntmps7, List.size_toArray, List.length_cons, List.length_nil, Nat.reduceAdd, Nat.reduceSub, Array.replicate_succ, Array.replicate_zero, List.push_toArray, List.append_toArray, List.nil_append, List.cons_append]
  refine (wpIn_wide (n := 3)).2 ?_
  go_wp2_with fail
  rw [← HW0.out]
  refine (HH.out _).mono ?_
  rintro e w1 ⟨rfl, hb1⟩
  have HB1 := Lib.hid (And.intro (HP0.out.1.trans (hb1.mono HP0.out.1.size)) (show Boxed w1 w.heap.size 9 (.string key) from (hb1.block _ HP0.out.2.lt).trans HP0.out.2))
  have HF1 := Lib.hid (HFW.out w1 HB1.out.1)
  clear hb1
  go_wp2_with fail
  refine HF1.out.mono ?_
  rintro e w2 ⟨rfl, hb2⟩
  have HB2 := Lib.hid (And.intro (HB1.out.1.trans (hb2.mono HB1.out.1.size)) (show Boxed w2 w.heap.size 9 (.string key) from (hb2.block _ HB1.out.2.lt).trans HB1.out.2))
  have HP2 := Lib.hid (HPL.out w2 HB2.out.1)
  have hc2 := HB2.out.2.cell
  clear hb2 HF1
  go_wp2_with fail
  refine HP2.out.mono ?_
  rintro e w4 ⟨t, a4, c4, ps, rfl, hP⟩
  have hs0 := SE.made HB2.out.1 HB2.out.2 hP
  have hpl2 : ps.length ≤ 200 := by have := hP.2.1; omega
  obtain ⟨q, hq⟩ : ∃ q, q = w4.heap.size := ⟨_, rfl⟩
  obtain ⟨n0, hn0⟩ : ∃ n0, n0 = w2.heap.size := ⟨_, rfl⟩
  rw [← hq, ← hn0] at hs0
  have HQ := Lib.hid hq
  have hck : ((w4.alloc (.cells #[.string ⟨#[]⟩] 9)).alloc (.cells #[.bool false] 4)).cell? ⟨w.heap.size, 0, none⟩ = some (.string key) :=
    (hs0.below (((Below.refl _ w4).alloc (by omega) _).alloc (by simp; omega) _)).1.cell
  have HS0 := Lib.hid hs0
  clear hP hs0 HP2 HPL hc2 hq hn0
  go_wp2_with fail
  rw [← HQ.out]
  obtain ⟨WB, hWB⟩ : ∃ WB, WB = ((w4.alloc (.cells #[.string ⟨#[]⟩] 9)).alloc (.cells #[.bool false] 4)) := ⟨_, rfl⟩
  rw [← hWB]
  refine (from_any _ key _).mono ?_
  rintro e W6 ⟨rfl, hw6⟩
  have hzB : WB.heap.size = q + 2 := by rw [hWB, HQ.out]; simp
  rw [hzB]
  have HALL : Hid (Below q w4 W6 ∧ Boxed W6 q 9 (.string ⟨#[]⟩) ∧ Boxed W6 (q + 1) 4 (.bool false) ∧ Boxed W6 (q + 2) 25 (.pointer (some ⟨t, 0, none⟩)) ∧ Boxed W6 (q + 2 + 1) 9 (.string key) ∧ W6.heap.size = q + 4) := Lib.hid (by
    have h1 := Boxed.new w4 9 (.string ⟨#[]⟩)
    have h2 := Boxed.new (w4.alloc (.cells #[.string ⟨#[]⟩] 9)) 4 (.bool false)
    have h3 := Boxed.new WB 25 (.pointer (some ⟨t, 0, none⟩))
    have h4 := Boxed.new (WB.alloc (.cells #[.pointer (some ⟨t, 0, none⟩)] 25)) 9 (.string key)
    simp only [World.size_alloc, hzB, ← HQ.out] at h1 h2 h3 h4
    rw [← hWB] at h2
    have h1' := h1.alloc (.cells #[.bool false] 4)
    rw [← hWB] at h1'
    have hb : Below q w4 WB := by rw [hWB]; exact ((Below.refl _ _).alloc (by rw [← HQ.out]; exact Nat.le_refl _) _).alloc (by simp; rw [← HQ.out]; omega) _
    rw [hw6]
    refine ⟨(hb.alloc (by omega) _).alloc (by simp; omega) _, (h1'.alloc _).alloc _, (h2.alloc _).alloc _, h3.alloc _, h4, by simp [hzB]⟩)
  clear hw6 hzB hWB hck
  go_wp2_with fail
  generalize decide ((60 : Int) < (key.size : Int)) = d60
  generalize (key.size : Int) = ksz
  obtain ⟨hb6, bF, bD, bT, bK, hsz⟩ := HALL.out
  have hS6 := HS0.out.below hb6
  obtain ⟨ls, hT, hls⟩ := hS6.2.2.1
  have hiv : ∀ p ∈ ls.flatten, IsV p.2 := by rw [hls]; exact isv_kv ps
  have hrise : RiseB (keysOf (kv ps)) := by rw [← hls]; exact hT.2.1.2
  have hst := seqR_of (from_stops 2 (q + 2) (q + 2 + 1) q (fun x => n0 ≤ x ∧ x < q) t ls key W6 (fun p => IsV p.2) (fun x hx => hx.2) (by omega) hT hiv hiv bT.cell bK.cell bT.lt bK.lt)
  rw [hls, from_kv hrise] at hst
  have HST := Lib.hid hst
  have HRI := Lib.hid hrise
  have HSX : Hid (∀ W, Below q W6 W → SE w W w.heap.size n0 q t a4 c4 ps key) := Lib.hid fun W hb => HS0.out.below (HALL.out.1.trans hb)
  have HSZ := Lib.hid hsz
  have HPW := Lib.hid hS6.2.2.2.2.2
  have HBB := Lib.hid (And.intro bF bD)
  have hqW : q < W6.heap.size := by omega
  have hq1W : q + 1 < W6.heap.size := by omega
  clear hst hb6 bF bD bT bK hS6 hT hls hiv hrise hsz hpl hl hlc hmx wk h60I HALL HS0
  refine (wpIn_wide (n := 3)).1 ?_
  refine wpIn_join (id := 0) (fun D W' => W6.heap.size ≤ D ∧ W'.heap[D]? = some (.deferred (some [])) ∧ (∃ fs fb, Boxed W' q 9 (.string fs) ∧ Boxed W' (q + 1) 4 (.bool fb) ∧ FirstP ps key fs fb) ∧ Below q W6 W') (fun _ _ h => h) ?rng ?rest
  case rng =>
    refine' wpIn_rangeR rfl (by omega) (gf := 23) (lb := #[.pointer (some ⟨q + 2, 0, none⟩), .pointer (some ⟨q + 2 + 1, 0, none⟩)]) rfl trivial (enters_of Try.func23 (by kernel_rfl) rfl)
      HST.out (fun h k => h.trans k) (KpB.turn (by omega)) (Below.refl _ _) (fun _ => rfl)
      (fun pre W' => (pre = [] ∧ Boxed W' q 9 (.string ⟨#[]⟩) ∧ Boxed W' (q + 1) 4 (.bool false)) ∧ Below q W6 W')
      (fun co pre W' => co = .exit 0 ∧ (OneP pre W' q ∧ Boxed W' (q + 1) 4 (.bool true)) ∧ Below q W6 W')
      ?hI ?hIx ⟨⟨rfl, HBB.out⟩, Below.refl _ _⟩
      _ ?assign ?body ?done ?stop
    case hI =>
      exact OwnFrom.and (fun pre X Y row hs hg hr => by
        obtain ⟨h1, h2, h3⟩ := hs
        exact ⟨h1, h2.kept hg (fun e => by have := (hr q e.symm).1; omega), h3.kept hg (fun e => by have := (hr _ e.symm).1; omega)⟩) (ownFrom_below (by omega) (by omega))
    case hIx =>
      rintro co pre X Y row ⟨h1, ⟨⟨x, h2, h3⟩, h4⟩, h5⟩ hg hr
      exact ⟨h1, ⟨⟨x, h2, h3.kept hg (fun e => by have := (hr q e.symm).1; omega)⟩, h4.kept hg (fun e => by have := (hr _ e.symm).1; omega)⟩, ownFrom_below (by omega) (by omega) () X Y row h5 hg hr⟩
    case assign =>
      intro l x W K hK
      rw [fold2]
      simp only [List.setIfInBounds_toArray, List.set_cons_succ, List.set_cons_zero]
      repeat gi_step
      exact hK
    case body =>
      rintro l pre x W' ⟨⟨rfl, bF, bD⟩, hB⟩ hlen hbig
      obtain ⟨xk, hxk⟩ : ∃ xk, x.1.1 = xk := ⟨_, rfl⟩
      simp only [hxk]
      have hfF := bF.frozen
      have hcF := bF.cell
      have b3 : Boxed (W'.setCell ⟨q, 0, none⟩ (.string xk)) (q + 1) 4 (.bool false) := (Below.heap_setCell W' ⟨q, 0, none⟩ (.string xk) (q + 1) (by show q + 1 ≠ q; omega)).trans bD
      have hfD := b3.frozen
      have hcD := b3.cell
      have HF : Hid (KeepsFrom W6.heap.size W' ((W'.setCell ⟨q, 0, none⟩ (.string xk)).setCell ⟨q + 1, 0, none⟩ (.bool true)) ∧ (OneP [x] ((W'.setCell ⟨q, 0, none⟩ (.string xk)).setCell ⟨q + 1, 0, none⟩ (.bool true)) q ∧ Boxed ((W'.setCell ⟨q, 0, none⟩ (.string xk)).setCell ⟨q + 1, 0, none⟩ (.bool true)) (q + 1) 4 (.bool true)) ∧ Below q W6 ((W'.setCell ⟨q, 0, none⟩ (.string xk)).setCell ⟨q + 1, 0, none⟩ (.bool true))) := Lib.hid (by
        have b1 : Boxed (W'.setCell ⟨q, 0, none⟩ (.string xk)) q 9 (.string xk) := bF.set _
        have b2 : Boxed (W'.setCell ⟨q, 0, none⟩ (.string xk)) (q + 1) 4 (.bool false) := (Below.heap_setCell W' ⟨q, 0, none⟩ (.string xk) (q + 1) (by show q + 1 ≠ q; omega)).trans bD
        refine ⟨((KeepsOthers.setCell _ _ _).from _).trans ((KeepsOthers.setCell _ _ _).from _), ⟨⟨x, rfl, ?_⟩, b2.set _⟩, (hB.setCell (p := ⟨q, 0, none⟩) (Nat.le_refl _) _).setCell (p := ⟨q + 1, 0, none⟩) (Nat.le_succ _) _⟩
        rw [hxk]
        exact (Below.heap_setCell _ ⟨q + 1, 0, none⟩ _ q (by show q ≠ q + 1; omega)).trans b1)
      clear bF bD b3 hB hxk hlen hbig
      gi_wp2
      exact ⟨⟨HF.out.1, rfl, HF.out.2⟩, SameIn.zero _ _ _⟩
    case done =>
      rintro D ys W' hD e ⟨⟨rfl, bF, bD⟩, hB⟩ hK
      exact ⟨.inl rfl, D, rfl, hD, hK, ⟨_, _, bF, bD, first_none e.symm⟩, hB⟩
    case stop =>
      rintro D co pre W' hD hsp ⟨rfl, ⟨⟨x, rfl, bF⟩, bD⟩, hB⟩ hK
      exact wpIn_exit ⟨.inr rfl, D, rfl, hD, hK, ⟨_, _, bF, bD, first_some hsp⟩, hB⟩
  case rest =>
    rintro D W' ⟨hD, hK, ⟨fs, fb, bF, bD, hFP⟩, hB⟩
    obtain ⟨e0, he0⟩ : ∃ e0, e0 = W'.heap.size := ⟨_, rfl⟩
    have hSw := HSX.out W' hB
    have HR : Hid (SE w W' w.heap.size n0 q t a4 c4 ps key ∧ (Boxed W' q 9 (.string fs) ∧ Boxed W' (q + 1) 4 (.bool fb)) ∧ FirstP ps key fs fb ∧ W'.heap[D]? = some (.deferred (some [])) ∧ (q + 4 ≤ D ∧ D < e0 ∧ q + 1 < e0)) := Lib.hid ⟨hSw, ⟨bF, bD⟩, hFP, hK, by
      have h1 := (Array.getElem?_eq_some_iff.1 hK).1
      have h2 := HSZ.out
      omega⟩
    have HE := Lib.hid he0
    have hck : ((W'.alloc (.cells #[.string ⟨#[]⟩] 9)).alloc (.cells #[.int .i64 0] 3)).cell? ⟨w.heap.size, 0, none⟩ = some (.string key) :=
      (hSw.below (((Below.refl _ W').alloc (by have := HR.out.2.2.2.2; omega) _).alloc (by simp; have := HR.out.2.2.2.2; omega) _)).1.cell
    clear hD hK bF bD hFP hB hSw HST HBB HSX HB1 HB2 HP0 HW0 HH HFW he0
    go_wp2_with fail
    rw [← HE.out]
    obtain ⟨WB, hWB⟩ : ∃ WB, WB = ((W'.alloc (.cells #[.string ⟨#[]⟩] 9)).alloc (.cells #[.int .i64 0] 3)) := ⟨_, rfl⟩
    rw [← hWB]
    refine (range_any _ ⟨#[]⟩ key _).mono ?_
    rintro e W8 ⟨rfl, hw8⟩
    have hzB : WB.heap.size = e0 + 2 := by rw [hWB, HE.out]; simp
    rw [hzB]
    have HALL : Hid (Below e0 W' W8 ∧ Boxed W8 e0 9 (.string ⟨#[]⟩) ∧ Boxed W8 (e0 + 1) 3 (.int .i64 ((0 : Nat) : Int)) ∧ Boxed W8 (e0 + 2) 25 (.pointer (some ⟨t, 0, none⟩)) ∧ Boxed W8 (e0 + 2 + 1) 9 (.string ⟨#[]⟩) ∧ Boxed W8 (e0 + 2 + 1 + 1) 9 (.string key) ∧ W8.heap.size = e0 + 5) := Lib.hid (by
      have h1 := Boxed.new W' 9 (.string ⟨#[]⟩)
      have h2 := Boxed.new (W'.alloc (.cells #[.string ⟨#[]⟩] 9)) 3 (.int .i64 0)
      have h3 := Boxed.new WB 25 (.pointer (some ⟨t, 0, none⟩))
      have h4 := Boxed.new (WB.alloc (.cells #[.pointer (some ⟨t, 0, none⟩)] 25)) 9 (.string ⟨#[]⟩)
      have h5 := Boxed.new ((WB.alloc (.cells #[.pointer (some ⟨t, 0, none⟩)] 25)).alloc (.cells #[.string ⟨#[]⟩] 9)) 9 (.string key)
      simp only [World.size_alloc, hzB, ← HE.out] at h1 h2 h3 h4 h5
      rw [← hWB] at h2
      have h1' := h1.alloc (.cells #[.int .i64 0] 3)
      rw [← hWB] at h1'
      have hb : Below e0 W' WB := by rw [hWB]; exact ((Below.refl _ _).alloc (by rw [← HE.out]; exact Nat.le_refl _) _).alloc (by simp; rw [← HE.out]; omega) _
      rw [hw8]
      refine ⟨((hb.alloc (by omega) _).alloc (by simp; omega) _).alloc (by simp; omega) _, ((h1'.alloc _).alloc _).alloc _, ((h2.alloc _).alloc _).alloc _, (h3.alloc _).alloc _, h4.alloc _, h5, by simp [hzB]⟩)
    clear hw8 hzB hWB hck
    go_wp2_with fail
    obtain ⟨hb8, bL, bN, bT, bA, bK, hsz⟩ := HALL.out
    obtain ⟨hSw, _, _, _, hDe⟩ := HR.out
    have hS8 := hSw.below (hb8.mono (by omega))
    obtain ⟨ls, hT, hls⟩ := hS8.2.2.1
    have hiv : ∀ p ∈ ls.flatten, IsV p.2 := by rw [hls]; exact isv_kv ps
    have hTB : TreeAt (fun x => (n0 ≤ x ∧ x < q) ∨ x = e0 + 2 + 1 + 1) W8 t ls := hT.keep fun x hx _ => ⟨rfl, .inl hx⟩
    have hst := range_seq 2 (e0 + 2) (e0 + 2 + 1) (e0 + 2 + 1 + 1) (e0 + 5) (fun x => (n0 ≤ x ∧ x < q) ∨ x = e0 + 2 + 1 + 1) t ls ⟨#[]⟩ key W8 (fun p => IsV p.2) (fun x hx => by omega) (by omega) hTB hiv hiv (fun _ h => h) bT.cell bA.cell bK.cell bT.lt bA.lt (.inr rfl)
    rw [hls, range_kv HRI.out, from_all] at hst
    have HST := Lib.hid hst
    have HSX : Hid (∀ W, Below e0 W8 W → SE w W w.heap.size n0 q t a4 c4 ps key ∧ (Boxed W q 9 (.string fs) ∧ Boxed W (q + 1) 4 (.bool fb)) ∧ W.heap[D]? = some (.deferred (some []))) := Lib.hid fun W hb => by
      obtain ⟨h1, ⟨h2, h3⟩, _, h4, h5⟩ := HR.out
      have h9 := HALL.out.1.trans hb
      exact ⟨h1.below (h9.mono (by omega)), ⟨(h9.block _ (by omega)).trans h2, (h9.block _ (by omega)).trans h3⟩, (h9.block D (by omega)).trans h4⟩
    have HSZ8 := Lib.hid hsz
    have HBB := Lib.hid (And.intro bL bN)
    have HDE := Lib.hid hDe
    have heW : e0 < W8.heap.size := by omega
    have he1W : e0 + 1 < W8.heap.size := by omega
    clear hst hb8 bL bN bT bA bK hSw hS8 hT hls hiv hTB hsz hDe HALL
    refine (wpIn_wide (n := 3)).1 ?_
    refine wpIn_join (id := 2) (fun D2 W' => W8.heap.size ≤ D2 ∧ W'.heap[D2]? = some (.deferred (some [])) ∧ (∃ lv, Boxed W' e0 9 (.string lv) ∧ Boxed W' (e0 + 1) 3 (.int .i64 (atK ps key : Nat)) ∧ LastP ps key lv) ∧ Below e0 W8 W') (fun _ _ h => h) ?rng2 ?rest2
    case rng2 =>
      refine' wpIn_rangeR rfl (by omega) (gf := 25) (lb := #[.pointer (some ⟨e0 + 2, 0, none⟩), .pointer (some ⟨e0 + 2 + 1, 0, none⟩), .pointer (some ⟨e0 + 2 + 1 + 1, 0, none⟩)]) rfl trivial (enters_of Try.func25 (by kernel_rfl) rfl)
        HST.out (fun h k => h.trans k) (KpB.turn (by have := HSZ8.out; omega)) (Below.refl _ _) (fun _ => rfl)
        (fun pre W' => (((key.toList == ([] : List UInt8)) = true → pre = []) ∧ ∃ lv, Boxed W' e0 9 (.string lv) ∧ Boxed W' (e0 + 1) 3 (.int .i64 (pre.length : Nat)) ∧ (pre = [] → lv = ⟨#[]⟩) ∧ ∀ ini x, pre = ini ++ [x] → lv = x.1.1) ∧ Below e0 W8 W')
        (fun co pre W' => co = .exit 2 ∧ ((key.toList == ([] : List UInt8)) = true ∧ Boxed W' e0 9 (.string ⟨#[]⟩) ∧ Boxed W' (e0 + 1) 3 (.int .i64 ((0 : Nat) : Int))) ∧ Below e0 W8 W')
        ?hI2 ?hIx2 ⟨⟨fun _ => rfl, ⟨#[]⟩, HBB.out.1, HBB.out.2, fun _ => rfl, fun ini x h => absurd (congrArg List.length h) (by simp)⟩, Below.refl _ _⟩
        _ ?assign2 ?body2 ?done2 ?stop2
      case hI2 =>
        exact OwnFrom.and (fun pre X Y row hs hg hr => by
          obtain ⟨h1, lv, h2, h3, h4⟩ := hs
          exact ⟨h1, lv, h2.kept hg (fun e => by have := (hr e0 e.symm).1; omega), h3.kept hg (fun e => by have := (hr _ e.symm).1; omega), h4⟩) (ownFrom_below (by omega) (by omega))
      case hIx2 =>
        rintro co pre X Y row ⟨h1, ⟨h2, h3, h4⟩, h5⟩ hg hr
        exact ⟨h1, ⟨h2, h3.kept hg (fun e => by have := (hr e0 e.symm).1; omega), h4.kept hg (fun e => by have := (hr _ e.symm).1; omega)⟩, ownFrom_below (by omega) (by omega) () X Y row h5 hg hr⟩
      case assign2 =>
        intro l x W K hK
        rw [fold2]
        simp only [List.setIfInBounds_toArray, List.set_cons_succ, List.set_cons_zero]
        repeat gi_step
        exact hK
      case body2 =>
        rintro l pre x W' ⟨⟨hk0, lv, bL, bN, hl0, hl1⟩, hB⟩ hlen hbig
        obtain ⟨xk, hxk⟩ : ∃ xk, x.1.1 = xk := ⟨_, rfl⟩
        simp only [hxk]
        have hck : W'.cell? ⟨w.heap.size, 0, none⟩ = some (.string key) := (HSX.out W' hB).1.1.cell
        have hfL := bL.frozen
        have hcL := bL.cell
        have b3 : Boxed (W'.setCell ⟨e0, 0, none⟩ (.string xk)) (e0 + 1) 3 (.int .i64 (pre.length : Nat)) := (Below.heap_setCell W' ⟨e0, 0, none⟩ (.string xk) (e0 + 1) (by show e0 + 1 ≠ e0; omega)).trans bN
        have hfN := b3.frozen
        have hcN := b3.cell
        have hlI : (pre.length : Int) < 200 := by rw [kv_length] at hlen; omega
        by_cases hk : (key.toList == ([] : List UInt8)) = true
        · have HF : Hid (KeepsFrom W8.heap.size W' W' ∧ (Boxed W' e0 9 (.string ⟨#[]⟩) ∧ Boxed W' (e0 + 1) 3 (.int .i64 ((0 : Nat) : Int))) ∧ Below e0 W8 W') := Lib.hid (by
            have h1 := hk0 hk
            rw [hl0 h1] at bL
            rw [h1] at bN
            exact ⟨KeepsFrom.refl _ _, ⟨bL, bN⟩, hB⟩)
          have HK : Hid ((key.toList == ([] : List UInt8)) = true) := Lib.hid hk
          clear bL bN b3 hB hxk hlen hbig hk0 hl0 hl1
          gi_wp2
          exact ⟨⟨HF.out.1, rfl, ⟨HK.out, HF.out.2.1⟩, HF.out.2.2⟩, fun q9 _ _ => rfl⟩
        · have hkf : (key.toList == ([] : List UInt8)) = false := by simpa using hk
          obtain ⟨WX, hWX⟩ : ∃ WX, WX = ((W'.setCell ⟨e0, 0, none⟩ (.string xk)).setCell ⟨e0 + 1, 0, none⟩ (.int .i64 ((pre.length : Int) + 1))) := ⟨_, rfl⟩
          have HF : Hid ((KeepsFrom W8.heap.size W' WX ∧ SameIn (W8.heap.size + 2) 1 W' WX) ∧ KpB (fun x => (n0 ≤ x ∧ x < q) ∨ x = e0 + 2 + 1 + 1) (e0 + 5) W' WX ∧ (((key.toList == ([] : List UInt8)) = true → pre ++ [x] = []) ∧ ∃ lv, Boxed WX e0 9 (.string lv) ∧ Boxed WX (e0 + 1) 3 (.int .i64 ((pre ++ [x]).length : Nat)) ∧ (pre ++ [x] = [] → lv = ⟨#[]⟩) ∧ ∀ ini y, pre ++ [x] = ini ++ [y] → lv = y.1.1) ∧ Below e0 W8 WX) := Lib.hid (by
            rw [hWX]
            have h9 := HDE.out
            have b1 : Boxed (W'.setCell ⟨e0, 0, none⟩ (.string xk)) e0 9 (.string xk) := bL.set _
            refine ⟨⟨((KeepsOthers.setCell _ _ _).from _).trans ((KeepsOthers.setCell _ _ _).from _), fun q9 h1 h2 => (same_set (m := 1) _ _ (by omega) q9 h1 h2).trans (same_set (m := 1) _ _ (by omega) q9 h1 h2)⟩, ⟨by simp, fun y hy _ => (Below.heap_setCell _ ⟨e0 + 1, 0, none⟩ _ y (by show y ≠ e0 + 1; omega)).trans (Below.heap_setCell W' ⟨e0, 0, none⟩ _ y (by show y ≠ e0; omega))⟩, ⟨fun h => absurd h hk, xk, ?_, ?_, fun h => absurd (congrArg List.length h) (by simp), fun ini y h => ?_⟩, (hB.setCell (p := ⟨e0, 0, none⟩) (Nat.le_refl _) _).setCell (p := ⟨e0 + 1, 0, none⟩) (Nat.le_succ _) _⟩
            · exact (Below.heap_setCell _ ⟨e0 + 1, 0, none⟩ _ e0 (by show e0 ≠ e0 + 1; omega)).trans b1
            · rw [List.length_append, List.length_singleton]
              exact b3.set _
            · have := List.append_inj_right' h rfl
              rw [← hxk, List.singleton_inj.1 this])
          have HWX := Lib.hid hWX
          clear bL bN b3 hB hxk hlen hbig hk0 hl0 hl1 hk hWX
          gi_wp2
          rw [← HWX.out]
          exact ⟨⟨HF.out.1.1, HF.out.2⟩, HF.out.1.2⟩
      case done2 =>
        rintro D2 ys W' hD e ⟨⟨hk0, lv, bL, bN, hl0, hl1⟩, hB⟩ hK
        by_cases hk : (key.toList == ([] : List UInt8)) = true
        · have h1 := hk0 hk
          have h2 := at_nil (ps := ps) hk
          rw [h1] at bN
          refine ⟨.inl rfl, D2, rfl, hD, hK, ⟨lv, bL, ?_, fun h => absurd h (by omega)⟩, hB⟩
          rw [h2]
          exact bN
        · have hkf : (key.toList == ([] : List UInt8)) = false := by simpa using hk
          rw [in_take HRI.out hkf] at e
          obtain ⟨h1, h2⟩ := last_of e hl1
          rw [h1] at bN
          exact ⟨.inl rfl, D2, rfl, hD, hK, ⟨lv, bL, bN, h2⟩, hB⟩
      case stop2 =>
        rintro D2 co pre W' hD hsp ⟨rfl, ⟨hk, bL, bN⟩, hB⟩ hK
        have h2 := at_nil (ps := ps) hk
        refine wpIn_exit ⟨.inr rfl, D2, rfl, hD, hK, ⟨_, bL, ?_, fun h => absurd h (by omega)⟩, hB⟩
        rw [h2]
        exact bN
    case rest2 =>
      rintro D2 W9 ⟨hD2, hK2, ⟨lv, bL, bN, hLP⟩, hB9⟩
      have hFP := HR.out.2.2.1
      obtain ⟨nn, hnn⟩ : ∃ nn, nn = atK ps key := ⟨_, rfl⟩
      have hnle : nn ≤ ps.length := by rw [hnn]; exact at_le ps key
      rw [← hnn] at bN
      unfold FirstP at hFP
      unfold LastP at hLP
      have HNN := Lib.hid (And.intro hnn (And.intro hFP hLP))
      have HT9 : Hid (∀ W, Below W9.heap.size W9 W → SE w W w.heap.size n0 q t a4 c4 ps key ∧ (W.cell? ⟨q, 0, none⟩ = some (.string fs) ∧ W.cell? ⟨q + 1, 0, none⟩ = some (.bool fb) ∧ W.cell? ⟨e0, 0, none⟩ = some (.string lv) ∧ W.cell? ⟨e0 + 1, 0, none⟩ = some (.int .i64 (nn : Int))) ∧ W.heap[D]? = some (.deferred (some [])) ∧ W.heap[D2]? = some (.deferred (some []))) := Lib.hid fun W hb => by
        have hs9 := hB9.size
        obtain ⟨h1, ⟨h2, h3⟩, h4⟩ := HSX.out W (hB9.trans (hb.mono (by omega)))
        exact ⟨h1, ⟨h2.cell, h3.cell, (show Boxed W e0 9 (.string lv) from (hb.block _ (by omega)).trans bL).cell, (show Boxed W (e0 + 1) 3 (.int .i64 (nn : Int)) from (hb.block _ (by omega)).trans bN).cell⟩, h4, (hb.block D2 (Array.getElem?_eq_some_iff.1 hK2).1).trans hK2⟩
      have HDD : Hid (w.heap.size ≤ D ∧ D < D2) := Lib.hid (by have h1 := HDE.out; have h2 := HPW.out; have h3 := HSZ8.out; omega)
      clear hD2 hK2 bL bN hLP hB9 hFP hnn HR HSX HST HBB
      go_wp2_with fail
      go_loopw [53, 14] (fun iv nv wr => ∃ z : Nat, z ≤ ps.length ∧ iv = .int .i64 (z : Int) ∧ nv = .int .i64 (atK (ps.take z) key : Nat) ∧ Hid (Below W9.heap.size W9 wr)) (fun iv nv _ => ps.length - (intOf iv).toNat)
      case atStart => exact ⟨0, Nat.zero_le _, rfl, by rw [List.take_zero]; rfl, Lib.hid (Below.refl _ _)⟩
      case round =>
        obtain ⟨z, hz, rfl, rfl, hst⟩ := hrel
        obtain ⟨hS9, ⟨hcF, hcD, hcL, hcN⟩, _, _⟩ := HT9.out wr hst.out
        by_cases hzl : z < ps.length
        · have hzI : (z : Int) < (ps.length : Int) := by omega
          obtain ⟨g, rfl, _⟩ := hS9.2.2.2.1.blk (by omega)
          obtain ⟨hk1, hk2⟩ := hS9.2.2.2.1.cell z hzl
          have hnx := at_next ps key hzl
          have hzk := at_le (ps.take z) key
          rw [List.length_take] at hzk
          obtain ⟨kz, hkz⟩ : ∃ kz, kz = atK (ps.take z) key := ⟨_, rfl⟩
          rw [← hkz] at hnx hzk ⊢
          obtain ⟨pk, hpk⟩ : ∃ pk, pk = (ps[z]).1 := ⟨_, rfl⟩
          obtain ⟨pz, hpz⟩ : ∃ pz, pz = (ps[z]).2 := ⟨_, rfl⟩
          rw [← hpk] at hk1 hnx
          rw [← hpz] at hk2
          have hbn : Below W9.heap.size W9 (wr.alloc (.cells #[.string pk, .int .i64 pz] 33)) := hst.out.alloc hst.out.size _
          have hck := (HT9.out _ hbn).1.1.cell
          have HBN := Lib.hid hbn
          have hkI : (kz : Int) ≤ 200 := by omega
          have HNX := Lib.hid hnx
          clear hS9 hcF hcD hcL hcN hst hbn hpk hpz hkz hzk hnx
          by_cases hlt : Lt pk key
          · have hless : Op.bytesLess pk.toList key.toList = true := (less_key _ _).2 hlt
            have HN2 : Hid (atK (ps.take (z + 1)) key = kz + 1) := Lib.hid (by rw [HNX.out, if_pos hlt])
            clear hlt
            go_wp2_with fail
            go_roundw
            case rel => exact ⟨z + 1, by omega, by go_num, by rw [HN2.out]; go_num, HBN⟩
            case measure => simp [intOf]; omega
          · have hless : Op.bytesLess pk.toList key.toList = false := by rw [Bool.eq_false_iff]; exact fun e => hlt ((less_key _ _).1 e)
            have HN2 : Hid (atK (ps.take (z + 1)) key = kz) := Lib.hid (by rw [HNX.out, if_neg hlt]; rfl)
            clear hlt
            go_wp2_with fail
            go_roundw
            case rel => exact ⟨z + 1, by omega, by go_num, by rw [HN2.out], HBN⟩
            case measure => simp [intOf]; omega
        · obtain rfl : z = ps.length := by omega
          rw [List.take_length, ← HNN.out.1]
          have hcase : (nn < ps.length ∧ fb = true ∧ ∀ h : nn < ps.length, fs = (ps[nn]).1) ∨ (¬ nn < ps.length ∧ fb = false) := by
            obtain ⟨h1, ⟨h2, h3⟩, _⟩ := HNN.out
            rw [← h1] at h2
            by_cases h : nn < ps.length
            · refine .inl ⟨h, by rw [h2]; simp [h], fun _ => ?_⟩
              subst h1
              exact h3 h
            · exact .inr ⟨h, by rw [h2]; simp [h]⟩
          have hcase0 : nn = 0 ∨ ∃ m, nn = m + 1 ∧ ∀ h : m < ps.length, lv = (ps[m]).1 := by
            rcases Nat.eq_zero_or_pos nn with h | h
            · exact .inl h
            · refine .inr ⟨nn - 1, by omega, fun _ => ?_⟩
              obtain ⟨h1, _, h3⟩ := HNN.out
              subst h1
              exact h3 h
          have hrow := hS9.2.2.2.1
          have HFN := Lib.hid (HT9.out wr.drew hst.out.drew)
          clear hS9 hst hzl hz HNN HT9
          rcases hcase with ⟨h1, rfl, h2⟩ | ⟨h1, rfl⟩
          · obtain ⟨g, rfl, _⟩ := hrow.blk (by omega)
            have hk1 := (hrow.cell nn h1).1
            rw [← h2 h1] at hk1
            rcases hcase0 with rfl | ⟨m, rfl, h4⟩
            · have hn1 : (0 : Int) < (ps.length : Int) := by omega
              have hn2 : ((0 : Nat) : Int) = 0 := rfl
              rw [Nat.zero_mul] at hk1
              rw [hn2] at hcN
              clear hrow h2
              go_wp2_with fail
              refine wp_region_still_lit (by kernel_rfl) (by kernel_rfl) ?_
              change wpStill _ _ (World.drew _) (fun a' => _) _ _
              repeat still_step
              refine wpStill_nil ?_
              go_wp2_with fail
              obtain ⟨hS9, _, hK1, hK2⟩ := HFN.out
              have hdd := HDD.out
              have hK1' : (wr.drew.putObj D2 (.deferred none)).heap[D]? = some (.deferred (some [])) := (World.putObj_heap_other (by omega)).trans hK1
              refine ⟨by simp, .inl ⟨_, _, rfl, run_takeDeferred hK2, ?_⟩⟩
              refine ⟨by simp, .inl ⟨_, _, rfl, run_takeDeferred hK1', ?_⟩⟩
              refine ⟨.bool true, ?_, rfl, (hS9.2.1.trans (belowK_b (w := w) (Nat.le_refl _) _ D2 _ _ (by omega) hK2 rfl rfl)).trans (belowK_b (w := w) (Nat.le_refl _) _ D _ _ (by omega) hK1' rfl rfl)⟩
              simp [results, Try.f7, go_sem]
            · have hn1 : (m : Int) + 1 < (ps.length : Int) := by omega
              have hw1 : IntKind.i64.wrap ((m : Int) + 1 - 1) = (m : Int) := by rw [IntKind.wrap_i64]; omega
              have hw2 : IntKind.i64.wrap (m : Int) = (m : Int) := by rw [IntKind.wrap_i64]; omega
              have htn : ((m : Int) + 1).toNat = m + 1 := by omega
              have hm1 : (m : Int) < (ps.length : Int) := by omega
              have hz0 : ((m : Int) + 1 == 0) = false := by rw [beq_eq_false_iff_ne]; omega
              have hp0 : (0 : Int) ≤ (m : Int) + 1 := by omega
              have hk2 := (hrow.cell m (by omega)).1
              rw [← h4 (by omega)] at hk2
              rw [show ((m + 1 : Nat) : Int) = (m : Int) + 1 from rfl] at hcN
              clear hrow h2 h4
              go_wp2_with fail
              refine wp_region_still_lit (by kernel_rfl) (by kernel_rfl) ?_
              change wpStill _ _ (World.drew _) (fun a' => _) _ _
              repeat still_step
              refine wpStill_nil ?_
              go_wp2_with fail
              obtain ⟨hS9, _, hK1, hK2⟩ := HFN.out
              have hdd := HDD.out
              have hK1' : (wr.drew.putObj D2 (.deferred none)).heap[D]? = some (.deferred (some [])) := (World.putObj_heap_other (by omega)).trans hK1
              refine ⟨by simp, .inl ⟨_, _, rfl, run_takeDeferred hK2, ?_⟩⟩
              refine ⟨by simp, .inl ⟨_, _, rfl, run_takeDeferred hK1', ?_⟩⟩
              refine ⟨.bool true, ?_, rfl, (hS9.2.1.trans (belowK_b (w := w) (Nat.le_refl _) _ D2 _ _ (by omega) hK2 rfl rfl)).trans (belowK_b (w := w) (Nat.le_refl _) _ D _ _ (by omega) hK1' rfl rfl)⟩
              simp [results, Try.f7, go_sem]
          · rcases hcase0 with rfl | ⟨m, rfl, h4⟩
            · have hn1 : ¬ (0 : Int) < (ps.length : Int) := by omega
              have hn2 : ((0 : Nat) : Int) = 0 := rfl
              rw [hn2] at hcN
              clear hrow
              go_wp2_with fail
              refine wp_region_still_lit (by kernel_rfl) (by kernel_rfl) ?_
              change wpStill _ _ (World.drew _) (fun a' => _) _ _
              repeat still_step
              refine wpStill_nil ?_
              go_wp2_with fail
              obtain ⟨hS9, _, hK1, hK2⟩ := HFN.out
              have hdd := HDD.out
              have hK1' : (wr.drew.putObj D2 (.deferred none)).heap[D]? = some (.deferred (some [])) := (World.putObj_heap_other (by omega)).trans hK1
              refine ⟨by simp, .inl ⟨_, _, rfl, run_takeDeferred hK2, ?_⟩⟩
              refine ⟨by simp, .inl ⟨_, _, rfl, run_takeDeferred hK1', ?_⟩⟩
              refine ⟨.bool true, ?_, rfl, (hS9.2.1.trans (belowK_b (w := w) (Nat.le_refl _) _ D2 _ _ (by omega) hK2 rfl rfl)).trans (belowK_b (w := w) (Nat.le_refl _) _ D _ _ (by omega) hK1' rfl rfl)⟩
              simp [results, Try.f7, go_sem]
            · have hn1 : ¬ (m : Int) + 1 < (ps.length : Int) := by omega
              have hw1 : IntKind.i64.wrap ((m : Int) + 1 - 1) = (m : Int) := by rw [IntKind.wrap_i64]; omega
              have hw2 : IntKind.i64.wrap (m : Int) = (m : Int) := by rw [IntKind.wrap_i64]; omega
              have htn : ((m : Int) + 1).toNat = m + 1 := by omega
              have hm1 : (m : Int) < (ps.length : Int) := by omega
              have hz0 : ((m : Int) + 1 == 0) = false := by rw [beq_eq_false_iff_ne]; omega
              have hp0 : (0 : Int) ≤ (m : Int) + 1 := by omega
              have hn3 : m < ps.length := by omega
              obtain ⟨g, rfl, _⟩ := hrow.blk (by omega)
              have hk2 := (hrow.cell m (by omega)).1
              rw [← h4 (by omega)] at hk2
              rw [show ((m + 1 : Nat) : Int) = (m : Int) + 1 from rfl] at hcN
              clear hrow h4
              go_wp2_with fail
              refine wp_region_still_lit (by kernel_rfl) (by kernel_rfl) ?_
              change wpStill _ _ (World.drew _) (fun a' => _) _ _
              repeat still_step
              refine wpStill_nil ?_
              go_wp2_with fail
              obtain ⟨hS9, _, hK1, hK2⟩ := HFN.out
              have hdd := HDD.out
              have hK1' : (wr.drew.putObj D2 (.deferred none)).heap[D]? = some (.deferred (some [])) := (World.putObj_heap_other (by omega)).trans hK1
              refine ⟨by simp, .inl ⟨_, _, rfl, run_takeDeferred hK2, ?_⟩⟩
              refine ⟨by simp, .inl ⟨_, _, rfl, run_takeDeferred hK1', ?_⟩⟩
              refine ⟨.bool true, ?_, rfl, (hS9.2.1.trans (belowK_b (w := w) (Nat.le_refl _) _ D2 _ _ (by omega) hK2 rfl rfl)).trans (belowK_b (w := w) (Nat.le_refl _) _ D _ _ (by omega) hK1' rfl rfl)⟩
              simp [results, Try.f7, go_sem]

theorem walk {w : World} (a : Option Addr) (la ca : Nat) (wa : ∃ vs, ActsCame w a la ca vs) (key : ByteArray) (wk : key.size ≤ maxLen) :
    Calls Try.prog 7 #[.slice a la ca, .string key] w fun e W' => e = .returned (.bool true) ∧ Below w.heap.size w W' := by
  obtain ⟨vs, wa⟩ := wa
  exact walk_main a la ca vs wa key wk

end Go.Proofs.Ytkohmiegkebmeaa.treeEnds
