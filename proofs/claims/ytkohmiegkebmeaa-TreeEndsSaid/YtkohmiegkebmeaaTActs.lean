/-
  TreeActs: whatever is put and dropped: each answer, and all keys behind it, in order.
-/
import Derived.Test.YtkohmiegkebmeaaTPlayW
import Derived.Test.YtkohmiegkebmeaaTHead
import Derived.Test.YtkohmiegkebmeaaTFromI
import Derived.Test.YtkohmiegkebmeaaTRow
namespace Go.Proofs.Ytkohmiegkebmeaa.treeActs
open Go.RowKit Go.Proofs.Ytkohmiegkebmeaa.tI Go.Proofs.Ytkohmiegkebmeaa.tP

set_option linter.unusedVariables false
set_option linter.unusedSimpArgs false
attribute [local go_sem] Oper.semAt_some

theorem from_all (m : List KV) : fromK m ⟨#[]⟩ = m := by
  unfold fromK
  refine List.filter_eq_self.2 fun p _ => ?_
  have : ¬ Lt p.1 ⟨#[]⟩ := by unfold Lt; exact List.not_lt_nil _
  simp [this]

theorem get_at {ps : List PI} (hr : RiseB (keysOf (kv ps))) {j : Nat} (h : j < ps.length) : getK (kv ps) (ps[j]).1 = some (.int .i64 (ps[j]).2) := by
  have hsp : ps = ps.take j ++ ps[j] :: ps.drop (j + 1) := by rw [← List.drop_eq_getElem_cons h, List.take_append_drop]
  have hkv : kv ps = kv (ps.take j) ++ ((ps[j]).1, Value.int .i64 (ps[j]).2) :: kv (ps.drop (j + 1)) := by
    conv => lhs; rw [hsp]
    rw [kv_append]
    rfl
  have hr2 := hr
  rw [hkv] at hr2
  unfold keysOf RiseB at hr2
  rw [List.map_append, List.map_cons, List.pairwise_append] at hr2
  obtain ⟨_, h2, h3⟩ := hr2
  have h4 := List.pairwise_cons.1 h2
  rw [hkv]
  exact (ops_is (fun p hp => h3 _ (List.mem_map.2 ⟨p, hp, rfl⟩) _ List.mem_cons_self) (fun p hp => h4.1 _ (List.mem_map.2 ⟨p, hp, rfl⟩))).1
theorem get_no {ps : List PI} {key : ByteArray} (h : ∀ i (hi : i < ps.length), (ps[i]).1 ≠ key) : getK (kv ps) key = none := by
  unfold getK
  rw [List.find?_eq_none.2]
  · rfl
  · intro p hp
    obtain ⟨q, hq, rfl⟩ := List.mem_map.1 (show p ∈ ps.map _ from hp)
    obtain ⟨i, hi, rfl⟩ := List.getElem_of_mem hq
    simpa using h i hi
theorem isv_kv (ps : List PI) : ∀ p ∈ kv ps, IsV p.2 := fun p hp => by
  obtain ⟨q, hq, rfl⟩ := List.mem_map.1 (show p ∈ ps.map _ from hp)
  exact ⟨_, rfl⟩
theorem kv_take (ps : List PI) (z : Nat) : kv (ps.take z) = (kv ps).take z := by simp [kv, List.map_take]
theorem kv_next {ps : List PI} {z : Nat} (h : z < ps.length) : kv (ps.take z) ++ [((ps[z]).1, Value.int .i64 (ps[z]).2)] = kv (ps.take (z + 1)) := by
  rw [List.take_succ_eq_append_getElem h, kv_append]
  rfl

/-- the world behind play, the list in a box -/
def SA (w W : World) (p n q t : Nat) (a : Option Addr) (c : Nat) (ps : List PI) : Prop :=
  Boxed W p 4 (.bool false) ∧ Boxed W q 26 (.slice a ps.length c) ∧ Below w.heap.size w W ∧ (∃ ls, TreeAt (fun x => n ≤ x ∧ x < q) W t ls ∧ ls.flatten = kv ps) ∧ MRow W n (.slice a ps.length c) ps ∧ (∀ x, (Value.slice a ps.length c).ownBlock = some x → x < q) ∧ (w.heap.size = p ∧ p < n ∧ n ≤ q)
theorem SA.below {w W W' : World} {p n q t : Nat} {a : Option Addr} {c : Nat} {ps : List PI} (h : SA w W p n q t a c ps) (hb : Below (q + 1) W W') : SA w W' p n q t a c ps := by
  obtain ⟨h1, h2, h3, ⟨ls, h4, e⟩, h5, h6, h7, h8, h9⟩ := h
  exact ⟨(hb.block p (by omega)).trans h1, (hb.block q (by omega)).trans h2, h3.trans (hb.mono (by omega)), ⟨ls, h4.keep fun x hx _ => ⟨hb.block x (by have := hx.2; omega), hx⟩, e⟩, h5.keep fun x hx => hb.block x (by have := h6 x hx; omega), h6, h7, h8, h9⟩
theorem SA.get {w W : World} {p n q t : Nat} {a : Option Addr} {c : Nat} {ps : List PI} (h : SA w W p n q t a c ps) (key : ByteArray) : Calls Try.prog 13 #[.pointer (some ⟨t, 0, none⟩), .string key] W (GetP W (getK (kv ps) key)) := by
  obtain ⟨_, _, _, ⟨ls, h4, e⟩, _⟩ := h
  rw [← e]
  exact get_any h4 key
theorem SA.made {w w2 w4 : World} {t : Nat} {a : Option Addr} {c : Nat} {ps : List PI} {k : Nat} (hb : Below w.heap.size w w2) (hx : Boxed w2 w.heap.size 4 (.bool false)) (h : PlB w2 w4 t (.slice a ps.length c) ps k) :
    SA w (w4.alloc (.cells #[.slice a ps.length c] 26)) w.heap.size w2.heap.size w4.heap.size t a c ps := by
  obtain ⟨h1, h2, ⟨ls, h3, e⟩, h4⟩ := h
  have hz := h1.size
  have hb4 : Below w4.heap.size w4 (w4.alloc (.cells #[.slice a ps.length c] 26)) := (Below.refl _ w4).alloc (Nat.le_refl _) _
  have hlt := hx.lt
  exact ⟨(hb4.block _ (by omega)).trans ((h1.block _ hlt).trans hx), Boxed.new w4 _ _, (hb.trans (h1.mono hb.size)).alloc (by have := hb.size; omega) _, ⟨ls, h3.keep fun x hx hl => ⟨hb4.block x hl, hx.1, hl⟩, e⟩, h4.keep fun x hx => hb4.block x (World.ownsRow.lt h4 x hx).2, fun x hx => (World.ownsRow.lt h4 x hx).2, rfl, hlt, hz⟩

/-- one was told that isn't the list's next one -/
def StopP (ps : List PI) (pre : List { p : KV // IsV p.2 }) : Prop := ∃ ini x z, pre = ini ++ [x] ∧ ini.map Subtype.val = kv (ps.take z) ∧ z ≤ ps.length ∧ ¬ (∃ h : z < ps.length, x.1 = ((ps[z]).1, .int .i64 (ps[z]).2))
theorem stop_not {ps : List PI} {pre : List { p : KV // IsV p.2 }} (h : StopP ps pre) (hp : pre.map Subtype.val <+: kv ps) : False := by
  obtain ⟨ini, x, z, rfl, h1, h2, h3⟩ := h
  obtain ⟨r, hr⟩ := hp
  rw [List.map_append, h1, kv_take] at hr
  have hl := congrArg List.length hr
  simp only [List.length_append, List.length_take, List.map_cons, List.map_nil, List.length_cons, List.length_nil, kv_length] at hl
  have hz : z < ps.length := by omega
  refine h3 ⟨hz, ?_⟩
  have h4 := congrArg (fun l => l[z]?) hr
  simp only [List.append_assoc] at h4
  rw [List.getElem?_append_right (by rw [List.length_take, kv_length]; omega), List.length_take, kv_length] at h4
  rw [show z - min z ps.length = 0 by omega] at h4
  simp [kv, hz] at h4
  exact h4

set_option maxHeartbeats 8000000 in
set_option maxRecDepth 100000 in
theorem walk_main {w : World} (a : Option Addr) (la ca : Nat) (vs : List AC) (wa : ActsCame w a la ca vs) (key : ByteArray) (wk : key.size ≤ maxLen) :
    Calls Try.prog 3 #[.slice a la ca, .string key] w fun e W' => e = .returned (.bool true) ∧ Below w.heap.size w W' := by
  have hhead := tI.head_any (w.alloc (.cells #[.bool false] 4))
  have hb0 := (Below.refl _ w).alloc (Nat.le_refl _) (.cells #[.bool false] 4)
  have hB0 := Boxed.new w 4 (.bool false)
  have HP0 := Lib.hid (And.intro hb0 hB0)
  obtain ⟨hl, hlc, hmx, hai, hvok⟩ := wa
  clear hvok
  have HFW : Hid (∀ W, Below w.heap.size w W → Calls Try.prog 10 #[.slice a la ca] W fun e w' => e = .returned (.bool (fewA vs)) ∧ Below W.heap.size W w') := Lib.hid fun W hb => few_any (hai.below hb) hl (Nat.le_trans hlc hmx)
  by_cases hout : fewA vs = false ∨ 60 < key.size
  · have hc2 : (fewA vs = false) ∨ (fewA vs = true ∧ (60 : Int) < (key.size : Int)) := by
      cases hfa : fewA vs with
      | false => exact .inl rfl
      | true => exact .inr ⟨rfl, by rcases hout with h | h; (rw [hfa] at h; cases h); omega⟩
    clear hb0 hB0 hai hout
    obtain ⟨fa, hfa⟩ : ∃ fa, fa = fewA vs := ⟨_, rfl⟩
    rw [← hfa] at HFW hc2
    clear hfa
    rcases hc2 with rfl | ⟨rfl, h60⟩
    all_goals
      go_enter Try.func3, Try.ntmps3
      go_wp2_with fail
      refine hhead.mono ?_
      rintro e w1 ⟨rfl, hb1⟩
      have hbx : Boxed w1 w.heap.size 4 (.bool false) := (hb1.block _ HP0.out.2.lt).trans HP0.out.2
      have hc := hbx.cell
      have hf := hbx.frozen
      have HB1 := Lib.hid (And.intro (HP0.out.1.trans (hb1.mono HP0.out.1.size)) hbx)
      have HF1 := Lib.hid (HFW.out w1 HB1.out.1)
      clear hb1 hhead hbx hc hf
      go_wp2_with fail
      refine HF1.out.mono ?_
      rintro e w2 ⟨rfl, hb2⟩
      have hbx : Boxed w2 w.heap.size 4 (.bool false) := (hb2.block _ HB1.out.2.lt).trans HB1.out.2
      have hc := hbx.cell
      have hf := hbx.frozen
      have HB2 := Lib.hid (And.intro (HB1.out.1.trans (hb2.mono HB1.out.1.size)) hbx)
      clear hb2 hbx HF1
      go_wp2
      have hc5 := (HB2.out.2.set (.bool true)).cell
      refine bodyPost_ret (v := .bool true) ?_ rfl ⟨rfl, HB2.out.1.setCell (p := ⟨w.heap.size, 0, none⟩) (Nat.le_refl _) _⟩
      simp [results, Try.f3, go_sem, hc5]
  have hfa : fewA vs = true := by
    cases h : fewA vs with
    | true => rfl
    | false => exact absurd (.inl h) hout
  have h60I : ¬ (60 : Int) < (key.size : Int) := by omega
  have hfew := fewA_of hfa
  rw [hfa] at HFW
  have HPL : Hid (∀ W, Below w.heap.size w W → Calls Try.prog 11 #[.slice a la ca] W (PlayP W la)) := Lib.hid fun W hb => play_any (hai.below hb) hl (by omega)
  have hpl : la ≤ 200 := by omega
  clear hb0 hB0 hai hout hfa hfew
  refine (callsIn_wide (n := 3)).1 (callsIn_of_wp_marks Try.func3 rfl trivial ?_)
  simp only [Try.ntmps3, List.size_toArray, List.length_cons, List.length_nil, Nat.reduceAdd, Nat.reduceSub, Array.replicate_succ, Array.replicate_zero, List.push_toArray, List.append_toArray, List.nil_append, List.cons_append]
  refine (wpIn_wide (n := 3)).2 ?_
  go_wp2_with fail
  refine hhead.mono ?_
  rintro e w1 ⟨rfl, hb1⟩
  have hbx : Boxed w1 w.heap.size 4 (.bool false) := (hb1.block _ HP0.out.2.lt).trans HP0.out.2
  have HB1 := Lib.hid (And.intro (HP0.out.1.trans (hb1.mono HP0.out.1.size)) hbx)
  have HF1 := Lib.hid (HFW.out w1 HB1.out.1)
  clear hb1 hhead hbx
  go_wp2_with fail
  refine HF1.out.mono ?_
  rintro e w2 ⟨rfl, hb2⟩
  have hbx : Boxed w2 w.heap.size 4 (.bool false) := (hb2.block _ HB1.out.2.lt).trans HB1.out.2
  have HB2 := Lib.hid (And.intro (HB1.out.1.trans (hb2.mono HB1.out.1.size)) hbx)
  have HP2 := Lib.hid (HPL.out w2 HB2.out.1)
  clear hb2 hbx HF1
  go_wp2_with fail
  refine HP2.out.mono ?_
  rintro e w4 ⟨t, a4, c4, ps, rfl, hP⟩
  have hs0 := SA.made HB2.out.1 HB2.out.2 hP
  have hpl2 : ps.length ≤ 200 := by have := hP.2.1; omega
  obtain ⟨q, hq⟩ : ∃ q, q = w4.heap.size := ⟨_, rfl⟩
  rw [← hq] at hs0
  have HS0 := Lib.hid hs0
  have HQ := Lib.hid hq
  clear hP hs0 hq HP2 HPL
  go_wp2_with fail
  rw [← HQ.out]
  obtain ⟨c, hc⟩ : ∃ c, c = q + 1 := ⟨_, rfl⟩
  have HC := Lib.hid hc
  rw [← hc]
  obtain ⟨WB, hWB⟩ : ∃ WB, WB = (w4.alloc (.cells #[.slice a4 ps.length c4] 26)).alloc (.cells #[.int .i64 0] 3) := ⟨_, rfl⟩
  rw [← hWB]
  have HSB : Hid (SA w WB w.heap.size w2.heap.size q t a4 c4 ps ∧ Boxed WB c 3 (.int .i64 ((0 : Nat) : Int)) ∧ WB.heap.size = c + 1) := Lib.hid (by
    have hz : (w4.alloc (.cells #[.slice a4 ps.length c4] 26)).heap.size = c := by rw [hc, HQ.out]; simp
    have h1 := Boxed.new (w4.alloc (.cells #[.slice a4 ps.length c4] 26)) 3 (.int .i64 0)
    rw [hz] at h1
    rw [hWB]
    exact ⟨HS0.out.below ((Below.refl _ _).alloc (by rw [hz, hc]; exact Nat.le_refl _) _), h1, by rw [World.size_alloc, hz]⟩)
  clear hWB hc
  refine (from_any _ ⟨#[]⟩ _).mono ?_
  rintro e w6 ⟨rfl, rfl⟩
  have hzB := HSB.out.2.2
  rw [hzB]
  have HALL : Hid (SA w ((WB.alloc (.cells #[.pointer (some ⟨t, 0, none⟩)] 25)).alloc (.cells #[.string ⟨#[]⟩] 9)) w.heap.size w2.heap.size q t a4 c4 ps ∧ Boxed ((WB.alloc (.cells #[.pointer (some ⟨t, 0, none⟩)] 25)).alloc (.cells #[.string ⟨#[]⟩] 9)) c 3 (.int .i64 ((0 : Nat) : Int)) ∧ Boxed ((WB.alloc (.cells #[.pointer (some ⟨t, 0, none⟩)] 25)).alloc (.cells #[.string ⟨#[]⟩] 9)) (c + 1) 25 (.pointer (some ⟨t, 0, none⟩)) ∧ Boxed ((WB.alloc (.cells #[.pointer (some ⟨t, 0, none⟩)] 25)).alloc (.cells #[.string ⟨#[]⟩] 9)) (c + 1 + 1) 9 (.string ⟨#[]⟩) ∧ ((WB.alloc (.cells #[.pointer (some ⟨t, 0, none⟩)] 25)).alloc (.cells #[.string ⟨#[]⟩] 9)).heap.size = c + 3) := Lib.hid (by
    have hc := HC.out
    have h1 := (Boxed.new WB 25 (.pointer (some ⟨t, 0, none⟩))).alloc (.cells #[.string ⟨#[]⟩] 9)
    have h2 := Boxed.new (WB.alloc (.cells #[.pointer (some ⟨t, 0, none⟩)] 25)) 9 (.string ⟨#[]⟩)
    rw [World.size_alloc, hzB] at h2
    rw [hzB] at h1
    exact ⟨HSB.out.1.below (((Below.refl _ _).alloc (by omega) _).alloc (by simp; omega) _), (HSB.out.2.1.alloc _).alloc _, h1, h2, by simp [hzB]⟩)
  obtain ⟨W6, hW6⟩ : ∃ W6, W6 = ((WB.alloc (.cells #[.pointer (some ⟨t, 0, none⟩)] 25)).alloc (.cells #[.string ⟨#[]⟩] 9)) := ⟨_, rfl⟩
  rw [← hW6] at HALL ⊢
  clear hW6 hzB HSB HS0 HQ
  go_wp2_with fail
  generalize decide ((60 : Int) < (key.size : Int)) = d60
  generalize (key.size : Int) = ksz
  obtain ⟨hS, bN, bT, bK, hsz⟩ := HALL.out
  have hcq := HC.out
  obtain ⟨ls, hT, hls⟩ := hS.2.2.2.1
  have hiv : ∀ p ∈ ls.flatten, IsV p.2 := by rw [hls]; exact isv_kv ps
  have hst := from_stops 2 (c + 1) (c + 1 + 1) c (fun x => w2.heap.size ≤ x ∧ x < q) t ls ⟨#[]⟩ W6 (fun p => IsV p.2) (fun x hx => by have := hx.2; omega) (by omega) hT hiv hiv bT.cell bK.cell bT.lt bK.lt
  rw [from_all, hls] at hst
  have hpq : w.heap.size < q := by have := hS.2.2.2.2.2.2; omega
  have HIV := Lib.hid hiv
  have HHL := Lib.hid hls
  have hc3 : c < W6.heap.size := by omega
  have hc4 : c + 1 < W6.heap.size := by omega
  have HSZ := Lib.hid hsz
  have HSS := Lib.hid hS
  have HBN := Lib.hid bN
  have HBT := Lib.hid bT
  have HST := Lib.hid hst
  have HSW : Hid (∀ W, Below c W6 W → SA w W w.heap.size w2.heap.size q t a4 c4 ps) := Lib.hid fun W hb => HSS.out.below (by rw [← HC.out]; exact hb)
  clear hl hlc hmx hpl hiv hls hsz hS bN bT bK hst hcq hT wk h60I
  refine (wpIn_wide (n := 3)).1 ?_
  refine' wpIn_rangeFunc_ownG rfl (by omega) (gf := 23) (lb := #[.pointer (some ⟨c + 1, 0, none⟩), .pointer (some ⟨c + 1 + 1, 0, none⟩)]) rfl trivial (enters_of Try.func23 (by kernel_rfl) rfl)
    HST.out (fun h k => h.trans k) (KpB.turn (by omega)) (Below.refl _ _) (fun _ => rfl)
    (fun pre W' => (∃ z : Nat, z ≤ ps.length ∧ pre.map Subtype.val = kv (ps.take z) ∧ Boxed W' c 3 (.int .i64 (z : Int))) ∧ Below c W6 W')
    (fun co pre _ => co = .ret ∧ StopP ps pre)
    (OwnFrom.and (fun pre X Y row hs hg hr => by
      obtain ⟨z, h1, h2, h3⟩ := hs
      exact ⟨z, h1, h2, h3.kept hg (fun e => by have := (hr c e.symm).1; omega)⟩) (ownFrom_below (by omega) (by omega)))
    (fun _ _ _ _ _ hs _ _ => hs)
    ⟨⟨0, by omega, rfl, HBN.out⟩, Below.refl _ _⟩
    _ ?assign ?body ?done ?stop
  case assign =>
    intro l x W K hK
    gi_wp2
    exact hK
  case body =>
    rintro l pre x W' ⟨⟨z, hz, hpre, bn⟩, hB⟩ hlen
    obtain ⟨v, hv⟩ : ∃ v, x.1.2 = .int .i64 v := x.2
    obtain ⟨xk, hxk⟩ : ∃ xk, x.1.1 = xk := ⟨_, rfl⟩
    simp only [hv, hxk]
    have hzl : z < ps.length := by
      have h1 := congrArg List.length hpre
      rw [List.length_map, kv_length, List.length_take] at h1
      rw [kv_length] at hlen
      omega
    have HX : Hid (x.1 = (xk, .int .i64 v) ∧ pre.map Subtype.val = kv (ps.take z)) := Lib.hid ⟨by rw [← hv, ← hxk], hpre⟩
    have hSW := HSW.out W' hB
    have hbl := hSW.2.1.cell
    have hbp := hSW.1.cell
    have hfp := hSW.1.frozen
    have hcn := bn.cell
    have hfn := bn.frozen
    obtain ⟨g, rfl, _⟩ := hSW.2.2.2.2.1.blk (by omega)
    obtain ⟨hk1, hk2⟩ := hSW.2.2.2.2.1.cell z hzl
    have hzI : ¬ (ps.length : Int) ≤ (z : Int) := by omega
    have hzJ : (z : Int) < (ps.length : Int) := by omega
    obtain ⟨pk, hpk⟩ : ∃ pk, pk = (ps[z]).1 := ⟨_, rfl⟩
    obtain ⟨pz, hpz⟩ : ∃ pz, pz = (ps[z]).2 := ⟨_, rfl⟩
    rw [← hpk] at hk1
    rw [← hpz] at hk2
    have HPZ : Hid (ps[z] = (pk, pz)) := Lib.hid (by rw [hpk, hpz])
    have HB0 := Lib.hid (And.intro bn hB)
    clear hv hxk hlen bn hB hpre hpk hpz hSW
    by_cases hxy : xk = pk
    · subst hxy
      by_cases hvz : v = pz
      · subst hvz
        have HF : Hid (KeepsFrom W6.heap.size W' (W'.setCell ⟨c, 0, none⟩ (.int .i64 ((z : Int) + 1))) ∧ KpB (fun x => w2.heap.size ≤ x ∧ x < q) c W' (W'.setCell ⟨c, 0, none⟩ (.int .i64 ((z : Int) + 1))) ∧ (∃ z2 : Nat, z2 ≤ ps.length ∧ (pre ++ [x]).map Subtype.val = kv (ps.take z2) ∧ Boxed (W'.setCell ⟨c, 0, none⟩ (.int .i64 ((z : Int) + 1))) c 3 (.int .i64 (z2 : Int))) ∧ Below c W6 (W'.setCell ⟨c, 0, none⟩ (.int .i64 ((z : Int) + 1)))) := Lib.hid (by
          obtain ⟨h1, h2⟩ := HB0.out
          refine ⟨(KeepsOthers.setCell _ _ _).from _, KpB.below ((Below.refl c W').setCell (p := ⟨c, 0, none⟩) (Nat.le_refl _) _) (Nat.le_refl _), ⟨z + 1, hzl, ?_, h1.set _⟩, h2.setCell (p := ⟨c, 0, none⟩) (Nat.le_refl _) _⟩
          rw [List.map_append, List.map_cons, List.map_nil, HX.out.2, HX.out.1, ← kv_next hzl, HPZ.out])
        clear HB0
        gi_wp2
        exact HF.out
      · have hvz2 : (pz == v) = false := by simpa using fun e => hvz e.symm
        have HS : Hid (StopP ps (pre ++ [x])) := Lib.hid ⟨pre, x, z, rfl, HX.out.2, hz, fun ⟨h, e⟩ => hvz (by
          rw [HPZ.out, HX.out.1] at e
          injection e with _ e
          injection e with _ e)⟩
        clear hvz HB0
        gi_wp2
        exact ⟨(KeepsOthers.setCell _ _ _).from _, rfl, HS.out⟩
    · have hxy2 : (pk.toList == xk.toList) = false := by
        refine Bool.eq_false_iff.2 fun e => hxy ?_
        exact ((same_key _ _).1 e).symm
      have HS : Hid (StopP ps (pre ++ [x])) := Lib.hid ⟨pre, x, z, rfl, HX.out.2, hz, fun ⟨h, e⟩ => hxy (by
        rw [HPZ.out, HX.out.1] at e
        exact (Prod.mk.inj e).1)⟩
      clear hxy HB0
      gi_wp2
      exact ⟨(KeepsOthers.setCell _ _ _).from _, rfl, HS.out⟩
  case done =>
    rintro D ys W' hD e ⟨⟨z, hz, hpre, bn⟩, hB⟩ hK
    have hzl : z = ps.length := by
      rw [e] at hpre
      have h1 := congrArg List.length hpre
      rw [kv_length, kv_length, List.length_take] at h1
      omega
    subst hzl
    have hSW := HSW.out W' hB
    have hbl := hSW.2.1.cell
    have hcn := bn.cell
    have HD : Hid (W'.heap[D]? = some (.deferred (some [])) ∧ W6.heap.size ≤ D) := Lib.hid ⟨hK, by first | exact hD | omega⟩
    have HSS2 := Lib.hid hSW
    have HG := Lib.hid (hSW.get key)
    obtain ⟨o, ho⟩ : ∃ o, o = getK (kv ps) key := ⟨_, rfl⟩
    rw [← ho] at HG
    have HO := Lib.hid ho
    have HR : Hid (RiseB (keysOf (kv ps))) := Lib.hid (by
      obtain ⟨ls9, hT9, e9⟩ := hSW.2.2.2.1
      rw [← e9]
      exact hT9.2.1.2)
    obtain ⟨v0, hv0⟩ : ∃ v0, o.getD (.int .i64 0) = .int .i64 v0 := by
      rw [ho]
      cases hg : getK (kv ps) key with
      | none => exact ⟨0, rfl⟩
      | some u =>
        unfold getK at hg
        obtain ⟨p9, hp9, rfl⟩ := Option.map_eq_some_iff.1 hg
        obtain ⟨q9, hq9, e9⟩ := List.mem_map.1 (show p9 ∈ ps.map _ from List.mem_of_find?_eq_some hp9)
        exact ⟨q9.2, by rw [← e9]; rfl⟩
    obtain ⟨b0, hb0⟩ : ∃ b0, o.isSome = b0 := ⟨_, rfl⟩
    unfold GetP at HG
    rw [hv0, hb0] at HG
    have HV : Hid (o.getD (.int .i64 0) = .int .i64 v0 ∧ o.isSome = b0) := Lib.hid ⟨hv0, hb0⟩
    clear hSW hB bn hpre e hD hK ho hv0 hb0
    go_wp2_with fail
    refine HG.out.mono ?_
    rintro e w7 ⟨rfl, hb7⟩
    have H7 : Hid (Below W'.heap.size W' w7 ∧ ∀ i (h : i < ps.length), i < 0 → (ps[i]).1 ≠ key) := Lib.hid ⟨hb7, fun i _ h => by omega⟩
    have hbl7 := (HSS2.out.below (hb7.mono (by have := HSS2.out.2.1.lt; omega))).2.1.cell
    clear hb7 HG hbl hcn
    go_wp2_with fail
    go_loopw [75] (fun iv wr => ∃ j : Nat, j ≤ ps.length ∧ iv = .int .i64 (j : Int) ∧ Hid (Below W'.heap.size W' wr ∧ ∀ i (h : i < ps.length), i < j → (ps[i]).1 ≠ key)) (fun iv _ => ps.length - (intOf iv).toNat)
    case atStart => exact ⟨0, Nat.zero_le _, rfl, H7⟩
    case round =>
      obtain ⟨j, hj, rfl, hst⟩ := hrel
      clear H7 hbl7
      have hSSr := HSS2.out.below (hst.out.1.mono (by have := HSS2.out.2.1.lt; omega))
      by_cases hjl : j < ps.length
      · have hjI : (j : Int) < (ps.length : Int) := by omega
        obtain ⟨g, rfl, _⟩ := hSSr.2.2.2.2.1.blk (by omega)
        obtain ⟨hk1, hk2⟩ := hSSr.2.2.2.2.1.cell j hjl
        have hga := get_at HR.out hjl
        have HST2 : Hid (∀ W, Below (wr.alloc (.cells #[.string (ps[j]).1, .int .i64 (ps[j]).2] 33)).heap.size (wr.alloc (.cells #[.string (ps[j]).1, .int .i64 (ps[j]).2] 33)) W → Below W'.heap.size W' W ∧ (W.cell? ⟨wr.heap.size, 0, none⟩ = some (.string (ps[j]).1) ∧ W.cell? ⟨wr.heap.size, 1, none⟩ = some (.int .i64 (ps[j]).2)) ∧ W.cell? ⟨w.heap.size, 0, none⟩ = some (.bool false) ∧ W.frozen? ⟨w.heap.size, 0, none⟩ = false) := Lib.hid fun W hb => by
          have h1 := (hst.out.1.alloc hst.out.1.size (.cells #[.string (ps[j]).1, .int .i64 (ps[j]).2] 33)).trans (hb.mono (by have := hst.out.1.size; simp; omega))
          have h2 : W.heap[wr.heap.size]? = some (.cells #[.string (ps[j]).1, .int .i64 (ps[j]).2] 33 (0, 0)) := (hb.block wr.heap.size (by simp)).trans (heap_alloc_new wr _)
          have h3 := HSS2.out.below (h1.mono (by have := HSS2.out.2.1.lt; omega))
          exact ⟨h1, ⟨cell_of_row W _ 0 _ _ (0, 0) h2, cell_of_row W _ 1 _ _ (0, 0) h2⟩, h3.1.cell, h3.1.frozen⟩
        have HG9 : Hid (Calls Try.prog 13 #[.pointer (some ⟨t, 0, none⟩), .string (ps[j]).1] (wr.alloc (.cells #[.string (ps[j]).1, .int .i64 (ps[j]).2] 33)) fun e w' => e = .returned (.tuple #[.int .i64 (ps[j]).2, .bool true]) ∧ Hid (Below (wr.alloc (.cells #[.string (ps[j]).1, .int .i64 (ps[j]).2] 33)).heap.size (wr.alloc (.cells #[.string (ps[j]).1, .int .i64 (ps[j]).2] 33)) w')) := Lib.hid (by
          have h1 := hSSr.below (W' := wr.alloc (.cells #[.string (ps[j]).1, .int .i64 (ps[j]).2] 33)) ((Below.refl _ _).alloc hSSr.2.1.lt _)
          have h2 := h1.get (ps[j]).1
          rw [hga] at h2
          refine h2.mono ?_
          rintro e w' ⟨rfl, h3⟩
          exact ⟨rfl, Lib.hid h3⟩)
        have HN : Hid ((∀ i (h : i < ps.length), i < j → (ps[i]).1 ≠ key) ∧ ((ps[j]).1 = key → v0 = (ps[j]).2 ∧ b0 = true)) := Lib.hid ⟨hst.out.2, fun e => by
          have h1 := HV.out
          rw [HO.out, ← e, hga] at h1
          obtain ⟨h2, h3⟩ := h1
          simp at h2 h3
          exact ⟨h2.symm, h3⟩⟩
        have HNX : Hid ((ps[j]).1 ≠ key → ∀ i (h : i < ps.length), i < j + 1 → (ps[i]).1 ≠ key) := Lib.hid fun hne i h hi => by
          by_cases e : i = j
          · subst e; exact hne
          · exact hst.out.2 i h (by omega)
        obtain ⟨pk, hpk⟩ : ∃ pk, pk = (ps[j]).1 := ⟨_, rfl⟩
        obtain ⟨pz, hpz⟩ : ∃ pz, pz = (ps[j]).2 := ⟨_, rfl⟩
        rw [← hpk] at hk1 HST2 HG9 HN HNX
        rw [← hpz] at hk2 HST2 HG9 HN
        clear hpk hpz hga hSSr hst
        go_wp2_with fail
        refine HG9.out.mono ?_
        rintro e w8 ⟨rfl, hb8⟩
        obtain ⟨hb9, ⟨k1, k2⟩, k3, k4⟩ := HST2.out w8 hb8.out
        have HB9 := Lib.hid hb9
        clear hb8 hb9 HG9 HST2 hk1 hk2
        by_cases hpk : pk = key
        · obtain ⟨rfl, rfl⟩ := HN.out.2 hpk
          have hpk2 : (pk.toList == key.toList) = true := (same_key _ _).2 hpk
          clear hpk HN HNX
          go_wp2_with fail
          have hz9 := HB9.out.size
          have hDl := (Array.getElem?_eq_some_iff.1 HD.out.1).1
          have hpw := HSS2.out.2.2.2.2.2.2
          have hSS9 := HSS2.out.below (HB9.out.mono (by have := HSS2.out.2.1.lt; omega))
          have bx : Boxed (w8.setCell ⟨w.heap.size, 0, none⟩ (.bool true)) w.heap.size 4 (.bool true) := hSS9.1.set _
          have hK' : (w8.setCell ⟨w.heap.size, 0, none⟩ (.bool true)).heap[D]? = some (.deferred (some [])) := (Below.heap_setCell w8 ⟨w.heap.size, 0, none⟩ (.bool true) D (by show D ≠ w.heap.size; have := HD.out.2; have := HSZ.out; have := HC.out; omega)).trans ((HB9.out.block D hDl).trans HD.out.1)
          refine ⟨by simp, .inl ⟨_, _, rfl, run_takeDeferred hK', ?_⟩⟩
          have hc5 := cell_kept bx.cell (grownBy_putObj' _ D (.deferred none)) (fun r e => by cases e; exact ⟨_, hK', rfl⟩)
          have hbf : Below w.heap.size w (w8.setCell ⟨w.heap.size, 0, none⟩ (.bool true)) := hSS9.2.2.1.setCell (p := ⟨w.heap.size, 0, none⟩) (Nat.le_refl _) _
          refine ⟨.bool true, ?_, rfl, hbf.trans (belowK_b (w := w) (Nat.le_refl _) _ D _ _ (by have := HD.out.2; have := HSZ.out; have := HC.out; omega) hK' rfl rfl)⟩
          simp [results, Try.f3, go_sem, hc5]
        · have hpk2 : (pk.toList == key.toList) = false := by
            refine Bool.eq_false_iff.2 fun e => hpk ((same_key _ _).1 e)
          have H8 := Lib.hid (HNX.out hpk)
          clear hpk HN HNX
          go_wp2_with fail
          go_roundw
          case rel => exact ⟨j + 1, by omega, by go_num, Lib.hid ⟨HB9.out, H8.out⟩⟩
          case measure => simp [intOf]; omega
      · obtain rfl : j = ps.length := by omega
        have hno : getK (kv ps) key = none := get_no fun i hi => hst.out.2 i hi hi
        obtain ⟨rfl, rfl⟩ : v0 = 0 ∧ b0 = false := by
          have h1 := HV.out
          rw [HO.out, hno] at h1
          obtain ⟨h2, h3⟩ := h1
          simp at h2 h3
          exact ⟨h2.symm, h3⟩
        have hcp := hSSr.1.cell
        have hfp := hSSr.1.frozen
        have HB9 := Lib.hid hst.out.1
        clear hst hno hSSr
        go_wp2_with fail
        have hz9 := HB9.out.size
        have hDl := (Array.getElem?_eq_some_iff.1 HD.out.1).1
        have hpw := HSS2.out.2.2.2.2.2.2
        have hSS9 := HSS2.out.below (HB9.out.mono (by have := HSS2.out.2.1.lt; omega))
        have bx : Boxed (wr.setCell ⟨w.heap.size, 0, none⟩ (.bool true)) w.heap.size 4 (.bool true) := hSS9.1.set _
        have hK' : (wr.setCell ⟨w.heap.size, 0, none⟩ (.bool true)).heap[D]? = some (.deferred (some [])) := (Below.heap_setCell wr ⟨w.heap.size, 0, none⟩ (.bool true) D (by show D ≠ w.heap.size; have := HD.out.2; have := HSZ.out; have := HC.out; omega)).trans ((HB9.out.block D hDl).trans HD.out.1)
        refine ⟨by simp, .inl ⟨_, _, rfl, run_takeDeferred hK', ?_⟩⟩
        have hc5 := cell_kept bx.cell (grownBy_putObj' _ D (.deferred none)) (fun r e => by cases e; exact ⟨_, hK', rfl⟩)
        have hbf : Below w.heap.size w (wr.setCell ⟨w.heap.size, 0, none⟩ (.bool true)) := hSS9.2.2.1.setCell (p := ⟨w.heap.size, 0, none⟩) (Nat.le_refl _) _
        refine ⟨.bool true, ?_, rfl, hbf.trans (belowK_b (w := w) (Nat.le_refl _) _ D _ _ (by have := HD.out.2; have := HSZ.out; have := HC.out; omega) hK' rfl rfl)⟩
        simp [results, Try.f3, go_sem, hc5]
  case stop =>
    rintro D co pre W' hD hsp ⟨rfl, hs⟩ hK
    exact (stop_not hs hsp).elim

theorem walk {w : World} (a : Option Addr) (la ca : Nat) (wa : ∃ vs, ActsCame w a la ca vs) (key : ByteArray) (wk : key.size ≤ maxLen) :
    Calls Try.prog 3 #[.slice a la ca, .string key] w fun e W' => e = .returned (.bool true) ∧ Below w.heap.size w W' := by
  obtain ⟨vs, wa⟩ := wa
  exact walk_main a la ca vs wa key wk

end Go.Proofs.Ytkohmiegkebmeaa.treeActs
