/-
  TreeRanges: the keys from one on, ahead of another one, as long as more are asked for.
-/
import Derived.Test.YtkohmiegkebmeaaTWant
import Derived.Test.YtkohmiegkebmeaaTNilI
import Derived.Test.YtkohmiegkebmeaaTActs
namespace Go.Proofs.Ytkohmiegkebmeaa.treeRanges
open Go.RowKit Go.Proofs.Ytkohmiegkebmeaa.tI Go.Proofs.Ytkohmiegkebmeaa.tP Go.Proofs.Ytkohmiegkebmeaa.rgR Go.Proofs.Ytkohmiegkebmeaa.treeActs

set_option linter.unusedVariables false
set_option linter.unusedSimpArgs false
attribute [local go_sem] Oper.semAt_some

theorem and_mask6 (n : Int) : bits .and .i64 n 63 = n % 64 := by
  have hc : (BitVec.ofInt 64 63).toNat = 2 ^ 6 - 1 := by decide
  have key : (BitVec.ofInt 64 n &&& BitVec.ofInt 64 63).toNat = (n % ((2 ^ 64 : Nat) : Int)).toNat % 2 ^ 6 := by
    rw [BitVec.toNat_and, BitVec.toNat_ofInt, hc, Nat.and_two_pow_sub_one_eq_mod]
  show IntKind.i64.wrap ((BitVec.ofInt 64 n &&& BitVec.ofInt 64 63).toNat : Nat) = n % 64
  rw [key, IntKind.wrap_i64]
  omega

theorem fold2 (p1 p2 : Tmp) (t : Array Value) (u v : Value) : ((#[p1, p2] : Array Tmp).zip #[u, v]).foldl (fun t x => match x with | (p, v) => t.setIfInBounds p v) t = (t.setIfInBounds p1 u).setIfInBounds p2 v := by simp
theorem same_set {B m k : Nat} (W : World) (v : Value) (h : k < B) : SameIn B m W (W.setCell ⟨k, 0, none⟩ v) := fun q h1 h2 => Below.heap_setCell W ⟨k, 0, none⟩ v q (by show q ≠ k; omega)

/-- both ways out of a loop over a sequence go on alike -/
theorem wpIn_join {c : Code} {F : Fence} {n : Nat} {P : Program} {a : Act} {w : World} {Q : Exit → Act → World → Prop} {id : Nat} (K : Nat → World → Prop) (hq : ∀ a' W', Q .normal a' W' → Q (.exit id) a' W')
    (h : c.wpIn F n P (fun e a' W' => (e = .normal ∨ e = .exit id) ∧ ∃ D, a' = { a with defers := { target := .collected D, args := #[] } :: a.defers } ∧ K D W') a w)
    (hk : ∀ D W', K D W' → Q .normal { a with defers := { target := .collected D, args := #[] } :: a.defers } W') : c.wpIn F n P Q a w := by
  refine wpIn_mono h ?_
  rintro e a' W' ⟨(rfl | rfl), D, rfl, hK⟩
  · exact hk _ _ hK
  · exact hq _ _ (hk _ _ hK)

/-- the world behind play: what is most, in a box; the tree and the list -/
def SR (w W : World) (p n q t : Nat) (a : Option Addr) (c : Nat) (ps : List PI) (mi : Int) : Prop :=
  Boxed W p 3 (.int .i64 mi) ∧ Boxed W (p + 1) 4 (.bool false) ∧ Below w.heap.size w W ∧ (∃ ls, TreeAt (fun x => n ≤ x ∧ x < q) W t ls ∧ ls.flatten = kv ps) ∧ MRow W n (.slice a ps.length c) ps ∧ (∀ x, (Value.slice a ps.length c).ownBlock = some x → x < q) ∧ (w.heap.size = p ∧ p + 1 < n ∧ n ≤ q ∧ q ≤ W.heap.size)
theorem SR.below {w W W' : World} {p n q t : Nat} {a : Option Addr} {c : Nat} {ps : List PI} {mi : Int} (h : SR w W p n q t a c ps mi) (hb : Below q W W') : SR w W' p n q t a c ps mi := by
  obtain ⟨h1, h2, h3, ⟨ls, h4, e⟩, h5, h6, h7, h8, h9, h10⟩ := h
  exact ⟨(hb.block p (by omega)).trans h1, (hb.block _ (by omega)).trans h2, h3.trans (hb.mono (by omega)), ⟨ls, h4.keep fun x hx _ => ⟨hb.block x (by have := hx.2; omega), hx⟩, e⟩, h5.keep fun x hx => hb.block x (by have := h6 x hx; omega), h6, h7, h8, h9, Nat.le_trans h10 hb.size⟩
theorem SR.made {w w2 w4 : World} {t : Nat} {a : Option Addr} {c : Nat} {ps : List PI} {k : Nat} {mi : Int} (hb : Below w.heap.size w w2) (hm : Boxed w2 w.heap.size 3 (.int .i64 mi)) (hx : Boxed w2 (w.heap.size + 1) 4 (.bool false)) (h : PlB w2 w4 t (.slice a ps.length c) ps k) :
    SR w w4 w.heap.size w2.heap.size w4.heap.size t a c ps mi := by
  obtain ⟨h1, h2, ⟨ls, h3, e⟩, h4⟩ := h
  have hz := h1.size
  have hlt := hx.lt
  exact ⟨(h1.block _ (by omega)).trans hm, (h1.block _ hlt).trans hx, (hb.trans (h1.mono hb.size)), ⟨ls, h3.keep fun x hx hl => ⟨rfl, hx.1, hl⟩, e⟩, h4, fun x hx => (World.ownsRow.lt h4 x hx).2, rfl, hlt, hz, Nat.le_refl _⟩
theorem SR.most {w W : World} {p n q t : Nat} {a : Option Addr} {c : Nat} {ps : List PI} {mi : Int} (h : SR w W p n q t a c ps mi) (z : Int) : SR w (W.setCell ⟨p, 0, none⟩ (.int .i64 z)) p n q t a c ps z := by
  obtain ⟨h1, h2, h3, ⟨ls, h4, e⟩, h5, h6, h7, h8, h9, h10⟩ := h
  have hk : ∀ x, x ≠ p → (W.setCell ⟨p, 0, none⟩ (.int .i64 z)).heap[x]? = W.heap[x]? := fun x hx => Below.heap_setCell W ⟨p, 0, none⟩ _ x hx
  refine ⟨h1.set _, (hk _ (by omega)).trans h2, h3.setCell (p := ⟨p, 0, none⟩) (by show w.heap.size ≤ p; omega) _, ⟨ls, h4.keep fun x hx _ => ⟨hk x (by have := hx.1; omega), hx⟩, e⟩, h5.keep fun x hx => hk x ?_, h6, h7, h8, h9, by simpa using h10⟩
  have := (World.ownsRow.lt h5 x hx).1
  omega

/-- .. and what is wanted so far, in a box -/
def WR (W : World) (q bw : Nat) (v : Value) (gs : List PI) : Prop := Boxed W bw 26 v ∧ MRow W q v gs ∧ v.ownBlock ≠ some bw ∧ q ≤ bw
theorem WR.below {W W' : World} {q bw : Nat} {v : Value} {gs : List PI} (h : WR W q bw v gs) (hb : Below W.heap.size W W') : WR W' q bw v gs :=
  ⟨(hb.block _ h.1.lt).trans h.1, h.2.1.keep fun x hx => hb.block x (World.ownsRow.lt h.2.1 x hx).2, h.2.2⟩
theorem WR.app {W W1 W' : World} {q bw : Nat} {v v' : Value} {gs gs' : List PI} (h : WR W q bw v gs) (hb : Below W.heap.size W W1) (hu : Up W1 v W' v') (hm : MRow W' q v' gs') : WR (W'.setCell ⟨bw, 0, none⟩ v') q bw v' gs' := by
  obtain ⟨h1, h2, h3, h4⟩ := h.below hb
  have hbx : Boxed W' bw 26 v := (hu.1.block _ h1.lt fun e => h3 e.symm).trans h1
  have hne : v'.ownBlock ≠ some bw := by
    rcases hu.2 with e | e
    · rw [e]; exact h3
    · intro e2; have := e _ e2; have := h1.lt; omega
  exact ⟨hbx.set _, hm.keep fun x hx => Below.heap_setCell W' ⟨bw, 0, none⟩ _ x (fun e => hne (by rw [hx]; exact congrArg _ e)), hne, h4⟩

theorem app_pair {W : World} {q : Nat} {a : Option Addr} {c : Nat} {gs : List PI} (h : MRow W q (.slice a gs.length c) gs) (hl : gs.length ≤ 1000) (hq : q ≤ W.heap.size) (p : PI) :
    ∃ a2 k2 W2, (Builtin.append_ #[PR, PR] PR #[.slice a gs.length c, .slice (some ⟨W.heap.size, 0, none⟩) 1 1]).run Try.prog (W.alloc (.cells #[.string p.1, .int .i64 p.2] 33)) = .ok (.slice a2 (gs.length + 1) k2) W2 ∧
      MRow W2 q (.slice a2 (gs.length + 1) k2) (gs ++ [p]) ∧ Up (W.alloc (.cells #[.string p.1, .int .i64 p.2] 33)) (.slice a gs.length c) W2 (.slice a2 (gs.length + 1) k2) := by
  have hb : Below W.heap.size W (W.alloc (.cells #[.string p.1, .int .i64 p.2] 33)) := (Below.refl _ W).alloc (Nat.le_refl _) _
  have h' : MRow (W.alloc (.cells #[.string p.1, .int .i64 p.2] 33)) q (.slice a gs.length c) gs := h.keep fun x hx => hb.block x (World.ownsRow.lt h x hx).2
  have hx : RRow (W.alloc (.cells #[.string p.1, .int .i64 p.2] 33)) (.slice (some ⟨W.heap.size, 0, none⟩) 1 1) [p] := .inr ⟨_, 1, rfl, fun j u hj => by
    have h1 : (rcells [p]) = [.string p.1, .int .i64 p.2] := by unfold rcells fcells; rfl
    rw [h1] at hj
    exact World.news_of_block (w := (W.alloc (.cells #[.string p.1, .int .i64 p.2] 33))) (heap_alloc_new W (.cells #[.string p.1, .int .i64 p.2] 33)) j u (by simpa using hj)⟩
  obtain ⟨a2, k2, W2, hrun, hm, hu⟩ := app_own _ q _ _ h' _ _ hx (Nat.le_trans hq hb.size) (by simp; omega) PR
  exact ⟨a2, k2, W2, hrun, hm, hu⟩

theorem in_cases {key to : ByteArray} {p : PI} : inR key to p = true ↔ Op.bytesLess p.1.toList key.toList = false ∧ ((to.toList == ([] : List UInt8)) = true ∨ Op.bytesLess p.1.toList to.toList = true) := by
  unfold inR
  rw [Bool.and_eq_true, Bool.or_eq_true]
  have : (!decide (Lt p.1 key)) = true ↔ Op.bytesLess p.1.toList key.toList = false := by
    rw [Bool.eq_false_iff, ne_eq, less_key]
    simp
  rw [this]


set_option maxHeartbeats 8000000 in
set_option maxRecDepth 100000 in
theorem walk_main {w : World} (a : Option Addr) (la ca : Nat) (vs : List AC) (wa : ActsCame w a la ca vs) (key : ByteArray) (wk : key.size ≤ maxLen) (to : ByteArray) (wt : to.size ≤ maxLen) (mi : Int) :
    Calls Try.prog 4 #[.slice a la ca, .string key, .string to, .int .i64 mi] w fun e W' => e = .returned (.bool true) ∧ Below w.heap.size w W' := by
  obtain ⟨w0, hw0⟩ : ∃ w0, w0 = (w.alloc (.cells #[.int .i64 mi] 3)).alloc (.cells #[.bool false] 4) := ⟨_, rfl⟩
  have hb0 : Below w.heap.size w w0 := by rw [hw0]; exact ((Below.refl _ w).alloc (Nat.le_refl _) _).alloc (by simp) _
  have hM0 : Boxed w0 w.heap.size 3 (.int .i64 mi) := by rw [hw0]; exact (Boxed.new w _ _).alloc _
  have hB0 : Boxed w0 (w.heap.size + 1) 4 (.bool false) := by
    have := Boxed.new (w.alloc (.cells #[.int .i64 mi] 3)) 4 (.bool false)
    rw [World.size_alloc] at this
    rw [hw0]; exact this
  have HW0 := Lib.hid hw0
  have HP0 := Lib.hid (And.intro hb0 (And.intro hM0 hB0))
  obtain ⟨hl, hlc, hmx, hai, hvok⟩ := wa
  clear hvok hw0 hb0 hM0 hB0
  have HH : Hid (∀ W, Calls Try.prog 9 #[] W fun e w' => e = .returned (.bool true) ∧ Below W.heap.size W w') := Lib.hid tI.head_any
  have HFW : Hid (∀ W, Below w.heap.size w W → Calls Try.prog 10 #[.slice a la ca] W fun e w' => e = .returned (.bool (fewA vs)) ∧ Below W.heap.size W w') := Lib.hid fun W hb => few_any (hai.below hb) hl (Nat.le_trans hlc hmx)
  by_cases hout : fewA vs = false ∨ 60 < key.size ∨ 60 < to.size
  · have hc2 : (fewA vs = false) ∨ (fewA vs = true ∧ (60 : Int) < (key.size : Int)) ∨ (fewA vs = true ∧ ¬ (60 : Int) < (key.size : Int) ∧ (60 : Int) < (to.size : Int)) := by
      cases hfa : fewA vs with
      | false => exact .inl rfl
      | true =>
        rcases hout with h | h | h
        · rw [hfa] at h; cases h
        · exact .inr (.inl ⟨rfl, by omega⟩)
        · by_cases h60 : 60 < key.size
          · exact .inr (.inl ⟨rfl, by omega⟩)
          · exact .inr (.inr ⟨rfl, by omega, by omega⟩)
    clear hai hout
    obtain ⟨fa, hfa⟩ : ∃ fa, fa = fewA vs := ⟨_, rfl⟩
    rw [← hfa] at HFW hc2
    clear hfa
    rcases hc2 with rfl | ⟨rfl, h60⟩ | ⟨rfl, h60, h61⟩
    all_goals
      go_enter Try.func4, Try.ntmps4
      go_wp2_with fail
      rw [← HW0.out]
      refine (HH.out _).mono ?_
      rintro e w1 ⟨rfl, hb1⟩
      have hbx : Boxed w1 (w.heap.size + 1) 4 (.bool false) := (hb1.block _ HP0.out.2.2.lt).trans HP0.out.2.2
      have hc := hbx.cell
      have hf := hbx.frozen
      have HB1 := Lib.hid (And.intro (HP0.out.1.trans (hb1.mono HP0.out.1.size)) hbx)
      have HF1 := Lib.hid (HFW.out w1 HB1.out.1)
      clear hb1 hbx hc hf
      go_wp2_with fail
      refine HF1.out.mono ?_
      rintro e w2 ⟨rfl, hb2⟩
      have hbx : Boxed w2 (w.heap.size + 1) 4 (.bool false) := (hb2.block _ HB1.out.2.lt).trans HB1.out.2
      have hc := hbx.cell
      have hf := hbx.frozen
      have HB2 := Lib.hid (And.intro (HB1.out.1.trans (hb2.mono HB1.out.1.size)) hbx)
      clear hb2 hbx HF1
      go_wp2
      have hc5 := (HB2.out.2.set (.bool true)).cell
      refine bodyPost_ret (v := .bool true) ?_ rfl ⟨rfl, HB2.out.1.setCell (p := ⟨w.heap.size + 1, 0, none⟩) (Nat.le_succ _) _⟩
      simp [results, Try.f4, go_sem, hc5]
  have hfa : fewA vs = true := by
    cases h : fewA vs with
    | true => rfl
    | false => exact absurd (.inl h) hout
  have h60I : ¬ (60 : Int) < (key.size : Int) := by omega
  have h61I : ¬ (60 : Int) < (to.size : Int) := by omega
  have hfew := fewA_of hfa
  rw [hfa] at HFW
  have HPL : Hid (∀ W, Below w.heap.size w W → Calls Try.prog 11 #[.slice a la ca] W (PlayP W la)) := Lib.hid fun W hb => play_any (hai.below hb) hl (by omega)
  have hpl : la ≤ 200 := by omega
  clear hai hout hfa hfew
  refine (callsIn_wide (n := 3)).1 (callsIn_of_wp_marks Try.func4 rfl trivial ?_)
  simp only [Try.ntmps4, List.size_toArray, List.length_cons, List.length_nil, Nat.reduceAdd, Nat.reduceSub, Array.replicate_succ, Array.replicate_zero, List.push_toArray, List.append_toArray, List.nil_append, List.cons_append]
  refine (wpIn_wide (n := 3)).2 ?_
  go_wp2_with fail
  rw [← HW0.out]
  refine (HH.out _).mono ?_
  rintro e w1 ⟨rfl, hb1⟩
  have HB1 := Lib.hid (And.intro (HP0.out.1.trans (hb1.mono HP0.out.1.size)) (And.intro ((hb1.block _ HP0.out.2.1.lt).trans HP0.out.2.1) ((hb1.block _ HP0.out.2.2.lt).trans HP0.out.2.2)))
  have HF1 := Lib.hid (HFW.out w1 HB1.out.1)
  clear hb1
  go_wp2_with fail
  refine HF1.out.mono ?_
  rintro e w2 ⟨rfl, hb2⟩
  have HB2 := Lib.hid (And.intro (HB1.out.1.trans (hb2.mono HB1.out.1.size)) (And.intro (show Boxed w2 w.heap.size 3 (.int .i64 mi) from (hb2.block _ (Array.getElem?_eq_some_iff.1 HB1.out.2.1).1).trans HB1.out.2.1) (show Boxed w2 (w.heap.size + 1) 4 (.bool false) from (hb2.block _ (Array.getElem?_eq_some_iff.1 HB1.out.2.2).1).trans HB1.out.2.2)))
  have HP2 := Lib.hid (HPL.out w2 HB2.out.1)
  clear hb2 HF1
  go_wp2_with fail
  refine HP2.out.mono ?_
  rintro e w4 ⟨t, a4, c4, ps, rfl, hP⟩
  have hs0 := SR.made HB2.out.1 HB2.out.2.1 HB2.out.2.2 hP
  have hpl2 : ps.length ≤ 200 := by have := hP.2.1; omega
  have hcm := hs0.1.cell
  have hfm := hs0.1.frozen
  have HS0 := Lib.hid hs0
  clear hP hs0 HP2 HPL
  have hm6 := and_mask6 mi
  obtain ⟨mo, hmo⟩ : ∃ mo : Nat, 1 + mi % 64 = (mo : Int) := ⟨(1 + mi % 64).toNat, by omega⟩
  have hmo1 : 1 ≤ mo ∧ mo ≤ 64 := by omega
  have hmw : IntKind.i64.wrap (1 + mi % 64) = (mo : Int) := by rw [hmo, IntKind.wrap_i64]; omega
  obtain ⟨q, hq⟩ : ∃ q, q = w4.heap.size := ⟨_, rfl⟩
  obtain ⟨n0, hn0⟩ : ∃ n0, n0 = w2.heap.size := ⟨_, rfl⟩
  rw [← hq, ← hn0] at HS0
  have HQ := Lib.hid hq
  clear hq hn0
  go_wp2_with fail
  rw [← HQ.out]
  obtain ⟨W5, hW5⟩ : ∃ W5, W5 = (((w4.setCell ⟨w.heap.size, 0, none⟩ (.int .i64 (mo : Int))).alloc (.cells #[] 33)).alloc (.cells #[.slice (some ⟨q, 0, none⟩) 0 0] 26)) := ⟨_, rfl⟩
  rw [← hW5]
  have HI0 : Hid (SR w W5 w.heap.size n0 q t a4 c4 ps mo ∧ ∃ a5 c5, WR W5 q (q + 1) (.slice a5 (wantK (ps.take 0) key to mo).length c5) (wantK (ps.take 0) key to mo)) := Lib.hid (by
    have hz : (w4.setCell ⟨w.heap.size, 0, none⟩ (.int .i64 (mo : Int))).heap.size = q := by rw [HQ.out]; simp
    have hz2 : ((w4.setCell ⟨w.heap.size, 0, none⟩ (.int .i64 (mo : Int))).alloc (.cells #[] 33)).heap.size = q + 1 := by simp [hz]
    have h1 := row_empty (w4.setCell ⟨w.heap.size, 0, none⟩ (.int .i64 (mo : Int))) q (by omega)
    have h2 := Boxed.new ((w4.setCell ⟨w.heap.size, 0, none⟩ (.int .i64 (mo : Int))).alloc (.cells #[] 33)) 26 (.slice (some ⟨q, 0, none⟩) 0 0)
    rw [hz] at h1
    rw [hz2] at h2
    have hw0 : wantK (ps.take 0) key to mo = [] := by simp [wantK]
    rw [hW5, hw0]
    refine ⟨(HS0.out.most mo).below (((Below.refl _ _).alloc (by omega) _).alloc (by omega) _), some ⟨q, 0, none⟩, 0, h2, ?_, by simp [Value.ownBlock], by omega⟩
    exact h1.keep fun x hx => Below.heap_alloc _ _ _ (by rw [hz2]; have := (World.ownsRow.lt h1 x hx).2; omega))
  have hmw0 : (mo : Int) ≤ 64 := by omega
  clear hW5 HS0 hcm hfm hm6 hmo hmw HQ
  go_loopw [48] (fun iv wr => ∃ z : Nat, z ≤ ps.length ∧ iv = .int .i64 (z : Int) ∧ Hid (SR w wr w.heap.size n0 q t a4 c4 ps mo ∧ ∃ a5 c5, WR wr q (q + 1) (.slice a5 (wantK (ps.take z) key to mo).length c5) (wantK (ps.take z) key to mo))) (fun iv _ => ps.length - (intOf iv).toNat)
  case atStart => exact ⟨0, Nat.zero_le _, rfl, HI0⟩
  case round =>
    obtain ⟨z, hz, rfl, hst⟩ := hrel
    clear HI0
    by_cases hzl : z < ps.length
    · have hzI : (z : Int) < (ps.length : Int) := by omega
      obtain ⟨hS, a5, c5, hWR⟩ := hst.out
      obtain ⟨g, rfl, _⟩ := hS.2.2.2.2.1.blk (by omega)
      obtain ⟨hk1, hk2⟩ := hS.2.2.2.2.1.cell z hzl
      obtain ⟨L, hL⟩ : ∃ L, L = (wantK (ps.take z) key to mo).length := ⟨_, rfl⟩
      rw [← hL] at hWR
      have hLm := want_len (ps.take z) key to mo
      rw [← hL] at hLm
      obtain ⟨pk, hpk⟩ : ∃ pk, pk = (ps[z]).1 := ⟨_, rfl⟩
      obtain ⟨pz, hpz⟩ : ∃ pz, pz = (ps[z]).2 := ⟨_, rfl⟩
      rw [← hpk] at hk1
      rw [← hpz] at hk2
      have hpp : ps[z] = (pk, pz) := by rw [hpk, hpz]
      have hbn : Below wr.heap.size wr (wr.alloc (.cells #[.string pk, .int .i64 pz] 33)) := (Below.refl _ _).alloc (Nat.le_refl _) _
      have hSn := hS.below (hbn.mono hS.2.2.2.2.2.2.2.2.2)
      have hWn := hWR.below hbn
      have hcm := hSn.1.cell
      have hcw := hWn.1.cell
      have hfw := hWn.1.frozen
      have HSK : Hid ((inR key to (pk, pz) = false ∨ mo ≤ L) → SR w (wr.alloc (.cells #[.string pk, .int .i64 pz] 33)) w.heap.size n0 q t (some ⟨g, 0, none⟩) c4 ps mo ∧ ∃ a5 c5, WR (wr.alloc (.cells #[.string pk, .int .i64 pz] 33)) q (q + 1) (.slice a5 (wantK (ps.take (z + 1)) key to mo).length c5) (wantK (ps.take (z + 1)) key to mo)) := Lib.hid fun h => by
        rw [want_out hzl (by rw [hpp, ← hL]; exact h)]
        exact ⟨hSn, a5, c5, by rw [← hL]; exact hWn⟩
      have HIN : Hid (inR key to (pk, pz) = true ↔ Op.bytesLess pk.toList key.toList = false ∧ ((to.toList == ([] : List UInt8)) = true ∨ Op.bytesLess pk.toList to.toList = true)) := Lib.hid in_cases
      have HAP : Hid (inR key to (pk, pz) = true → L < mo → ∃ a2 k2 W2, (Builtin.append_ #[PR, PR] PR #[.slice a5 L c5, .slice (some ⟨wr.heap.size + 1, 0, none⟩) 1 1]).run Try.prog ((wr.alloc (.cells #[.string pk, .int .i64 pz] 33)).alloc (.cells #[.string pk, .int .i64 pz] 33)) = .ok (.slice a2 (L + 1) k2) W2 ∧
          W2.frozen? ⟨q + 1, 0, none⟩ = false ∧ W2.cell? ⟨q + 1, 0, none⟩ = some (.slice a5 L c5) ∧ Hid (SR w (W2.setCell ⟨q + 1, 0, none⟩ (.slice a2 (L + 1) k2)) w.heap.size n0 q t (some ⟨g, 0, none⟩) c4 ps mo ∧ ∃ a5 c5, WR (W2.setCell ⟨q + 1, 0, none⟩ (.slice a2 (L + 1) k2)) q (q + 1) (.slice a5 (wantK (ps.take (z + 1)) key to mo).length c5) (wantK (ps.take (z + 1)) key to mo))) := Lib.hid fun hin hlt => by
        have hrow := hWn.2.1
        have hq2 : q ≤ wr.heap.size := hS.2.2.2.2.2.2.2.2.2
        rw [hL] at hrow
        obtain ⟨a2, k2, W2, hrun, hm, hu⟩ := app_pair hrow (by omega) (by simp; omega) (pk, pz)
        rw [← hL] at hrun hm hu
        rw [World.size_alloc] at hrun
        have hb1 : Below (wr.alloc (.cells #[.string pk, .int .i64 pz] 33)).heap.size (wr.alloc (.cells #[.string pk, .int .i64 pz] 33)) ((wr.alloc (.cells #[.string pk, .int .i64 pz] 33)).alloc (.cells #[.string pk, .int .i64 pz] 33)) := (Below.refl _ _).alloc (Nat.le_refl _) _
        have h9 := hWn.below hb1
        have hbx : Boxed W2 (q + 1) 26 (.slice a5 L c5) := (hu.1.block _ h9.1.lt fun e => h9.2.2.1 e.symm).trans h9.1
        refine ⟨a2, k2, W2, hrun, hbx.frozen, hbx.cell, Lib.hid ⟨?_, a2, k2, ?_⟩⟩
        · have hb2 : Below q ((wr.alloc (.cells #[.string pk, .int .i64 pz] 33)).alloc (.cells #[.string pk, .int .i64 pz] 33)) W2 := up_below hu (by simp; omega) (row_low hWn.2.1)
          exact hSn.below (((hb1.mono (by simp; omega)).trans hb2).setCell (p := ⟨q + 1, 0, none⟩) (Nat.le_succ _) _)
        · rw [want_in hzl (by rw [hpp]; exact hin) (by rw [← hL]; exact hlt), List.length_append, List.length_singleton, ← hL]
          rw [hpp]
          exact WR.app hWn hb1 hu hm
      have HL := Lib.hid hL
      clear hS hWR hSn hWn hbn hpk hpz hst hpp hL
      by_cases h1 : Op.bytesLess pk.toList key.toList = true
      · have F := Lib.hid (HSK.out (.inl (by rw [Bool.eq_false_iff]; intro e; have := (HIN.out.1 e).1; rw [h1] at this; cases this)))
        go_wp2_with fail
        go_roundw
        case rel => exact ⟨z + 1, by omega, by go_num, F⟩
        case measure => simp [intOf]; omega
      · have h1f : Op.bytesLess pk.toList key.toList = false := by simpa using h1
        clear h1
        by_cases h2 : (to.toList == ([] : List UInt8)) = true
        · by_cases h4 : L < mo
          · have h4I : (L : Int) < (mo : Int) := by omega
            obtain ⟨a2, k2, W2, hrun, hfw2, hcw2, F⟩ := HAP.out (HIN.out.2 ⟨h1f, .inl h2⟩) h4
            go_wp2_with (refine list_run rfl (.tmp 72) (.tmp 74) 26 rfl (.slice a5 L c5) (.slice (some ⟨wr.heap.size + 1, 0, none⟩) 1 1) (by simp [Act.eval]) (by simp [Act.eval]) hrun ?_)
            go_wp2_with fail
            go_roundw
            case rel => exact ⟨z + 1, by omega, by go_num, F⟩
            case measure => simp [intOf]; omega
          · have h4I : ¬ (L : Int) < (mo : Int) := by omega
            have F := Lib.hid (HSK.out (.inr (by omega)))
            go_wp2_with fail
            go_roundw
            case rel => exact ⟨z + 1, by omega, by go_num, F⟩
            case measure => simp [intOf]; omega
        · have h2f : (to.toList == ([] : List UInt8)) = false := by simpa using h2
          clear h2
          by_cases h3 : Op.bytesLess pk.toList to.toList = true
          · by_cases h4 : L < mo
            · have h4I : (L : Int) < (mo : Int) := by omega
              obtain ⟨a2, k2, W2, hrun, hfw2, hcw2, F⟩ := HAP.out (HIN.out.2 ⟨h1f, .inr h3⟩) h4
              go_wp2_with (refine list_run rfl (.tmp 72) (.tmp 74) 26 rfl (.slice a5 L c5) (.slice (some ⟨wr.heap.size + 1, 0, none⟩) 1 1) (by simp [Act.eval]) (by simp [Act.eval]) hrun ?_)
              go_wp2_with fail
              go_roundw
              case rel => exact ⟨z + 1, by omega, by go_num, F⟩
              case measure => simp [intOf]; omega
            · have h4I : ¬ (L : Int) < (mo : Int) := by omega
              have F := Lib.hid (HSK.out (.inr (by omega)))
              go_wp2_with fail
              go_roundw
              case rel => exact ⟨z + 1, by omega, by go_num, F⟩
              case measure => simp [intOf]; omega
          · have h3f : Op.bytesLess pk.toList to.toList = false := by simpa using h3
            clear h3
            have F := Lib.hid (HSK.out (.inl (by
              rw [Bool.eq_false_iff]
              intro e
              rcases (HIN.out.1 e).2 with h | h
              · rw [h2f] at h; cases h
              · rw [h3f] at h; cases h)))
            go_wp2_with fail
            go_roundw
            case rel => exact ⟨z + 1, by omega, by go_num, F⟩
            case measure => simp [intOf]; omega
    · obtain rfl : z = ps.length := by omega
      have hzI : ¬ (ps.length : Int) < (ps.length : Int) := by omega
      obtain ⟨hS, a5, c5, hWR⟩ := hst.out
      obtain ⟨R, hR⟩ : ∃ R, R = ps.filter (inR key to) := ⟨_, rfl⟩
      have hG : wantK (ps.take ps.length) key to mo = R.take mo := by rw [List.take_length, hR]; rfl
      rw [hG] at hWR
      obtain ⟨G, hGR⟩ : ∃ G, G = R.take mo := ⟨_, rfl⟩
      rw [← hGR] at hWR
      have hGl : G.length = min mo R.length := by rw [hGR, List.length_take]
      obtain ⟨LG, hLG⟩ : ∃ LG, LG = G.length := ⟨_, rfl⟩
      rw [← hLG] at hWR hGl
      obtain ⟨c, hc⟩ : ∃ c, c = wr.heap.size := ⟨_, rfl⟩
      have hqc : q + 2 ≤ c := by have := hWR.1.lt; omega
      have HC := Lib.hid hc
      have HSW : Hid (∀ W, Below c wr W → SR w W w.heap.size n0 q t a4 c4 ps mo ∧ WR W q (q + 1) (.slice a5 LG c5) G) := Lib.hid fun W hb => ⟨hS.below (hb.mono (by omega)), hWR.below (by rw [← hc]; exact hb)⟩
      have HG := Lib.hid (And.intro hGR hLG)
      have hc4 := hWR.1.cell
      clear hzl hz hS hWR hst hGR hLG hG hc
      go_wp2_with fail
      rw [← HC.out]
      obtain ⟨WB, hWB⟩ : ∃ WB, WB = wr.alloc (.cells #[.int .i64 0] 3) := ⟨_, rfl⟩
      rw [← hWB]
      refine (range_any _ key to _).mono ?_
      rintro e W6 ⟨rfl, hw6⟩
      have hzB : WB.heap.size = c + 1 := by rw [hWB, World.size_alloc, HC.out]
      rw [hzB]
      have HALL : Hid (Below c wr W6 ∧ Boxed W6 c 3 (.int .i64 ((0 : Nat) : Int)) ∧ Boxed W6 (c + 1) 25 (.pointer (some ⟨t, 0, none⟩)) ∧ Boxed W6 (c + 1 + 1) 9 (.string key) ∧ Boxed W6 (c + 1 + 1 + 1) 9 (.string to) ∧ W6.heap.size = c + 4) := Lib.hid (by
        have h1 := Boxed.new wr 3 (.int .i64 0)
        rw [← HC.out, ← hWB] at h1
        have h2 := (Boxed.new WB 25 (.pointer (some ⟨t, 0, none⟩)))
        have h3 := Boxed.new (WB.alloc (.cells #[.pointer (some ⟨t, 0, none⟩)] 25)) 9 (.string key)
        have h4 := Boxed.new ((WB.alloc (.cells #[.pointer (some ⟨t, 0, none⟩)] 25)).alloc (.cells #[.string key] 9)) 9 (.string to)
        simp only [World.size_alloc, hzB] at h2 h3 h4
        have hb : Below c wr WB := by rw [hWB]; exact (Below.refl _ _).alloc (by rw [← HC.out]; exact Nat.le_refl _) _
        rw [hw6]
        refine ⟨((hb.alloc (by omega) _).alloc (by simp; omega) _).alloc (by simp; omega) _, ((h1.alloc _).alloc _).alloc _, (h2.alloc _).alloc _, h3.alloc _, h4, by simp [hzB]⟩)
      clear hw6 hzB hWB
      go_wp2_with fail
      generalize decide ((60 : Int) < (key.size : Int)) = d60
      generalize decide ((60 : Int) < (to.size : Int)) = d61
      generalize (key.size : Int) = ksz
      generalize (to.size : Int) = tsz
      obtain ⟨hb6, bN, bT, bF, bO, hsz⟩ := HALL.out
      obtain ⟨hS6, _⟩ := HSW.out W6 hb6
      obtain ⟨ls, hT, hls⟩ := hS6.2.2.2.1
      have hiv : ∀ p ∈ ls.flatten, IsV p.2 := by rw [hls]; exact isv_kv ps
      have hrise : RiseB (keysOf (kv ps)) := by rw [← hls]; exact hT.2.1.2
      have hTB : TreeAt (fun x => (n0 ≤ x ∧ x < q) ∨ x = c + 1 + 1 + 1) W6 t ls := hT.keep fun x hx _ => ⟨rfl, .inl hx⟩
      have hst := range_seq 2 (c + 1) (c + 1 + 1) (c + 1 + 1 + 1) (c + 4) (fun x => (n0 ≤ x ∧ x < q) ∨ x = c + 1 + 1 + 1) t ls key to W6 (fun p => IsV p.2) (fun x hx => by omega) (by omega) hTB hiv hiv (fun _ h => h) bT.cell bF.cell bO.cell bT.lt bF.lt (.inr rfl)
      rw [hls, range_kv hrise, ← hR] at hst
      have HST := Lib.hid hst
      have HBN := Lib.hid bN
      have HSX : Hid (∀ W, Below c W6 W → SR w W w.heap.size n0 q t a4 c4 ps mo ∧ WR W q (q + 1) (.slice a5 LG c5) G) := Lib.hid fun W hb => HSW.out W (HALL.out.1.trans hb)
      have hpw := hS6.2.2.2.2.2.2
      have HSZ := Lib.hid hsz
      have HGL := Lib.hid hGl
      have HPW := Lib.hid (And.intro hpw hqc)
      have HMO := Lib.hid (And.intro hmo1 hmw0)
      have hcW : c < W6.heap.size := by omega
      have hc1W : c + 1 < W6.heap.size := by omega
      clear hst hb6 bN bT bF bO hS6 hT hls hiv hrise hTB hR HSW hsz hGl hpw hmo1 hmw0 hqc hc4 hpl2 hpl hl hlc hmx wk wt h60I h61I hzI
      refine (wpIn_wide (n := 3)).1 ?_
      refine wpIn_join (id := 2) (fun D W' => W6.heap.size ≤ D ∧ W'.heap[D]? = some (.deferred (some [])) ∧ Boxed W' c 3 (.int .i64 (LG : Int)) ∧ Below c W6 W') (fun _ _ h => h) ?rng ?rest
      case rng =>
        refine' wpIn_rangeR rfl (by omega) (gf := 25) (lb := #[.pointer (some ⟨c + 1, 0, none⟩), .pointer (some ⟨c + 1 + 1, 0, none⟩), .pointer (some ⟨c + 1 + 1 + 1, 0, none⟩)]) rfl trivial (enters_of Try.func25 (by kernel_rfl) rfl)
          HST.out (fun h k => h.trans k) (KpB.turn (by have := HSZ.out; omega)) (Below.refl _ _) (fun _ => rfl)
          (fun pre W' => (∃ z : Nat, (z ≤ R.length ∧ z < mo) ∧ pre.map Subtype.val = kv (R.take z) ∧ Boxed W' c 3 (.int .i64 (z : Int))) ∧ Below c W6 W')
          (fun co pre W' => (co = .ret ∧ StopP R pre) ∨ (co = .exit 2 ∧ (mo ≤ R.length ∧ Boxed W' c 3 (.int .i64 (mo : Int))) ∧ Below c W6 W'))
          ?hI ?hIx ⟨⟨0, ⟨by omega, by have := HMO.out; omega⟩, rfl, HBN.out⟩, Below.refl _ _⟩
          _ ?assign ?body ?done ?stop
        case hI =>
          exact OwnFrom.and (fun pre X Y row hs hg hr => by
            obtain ⟨z, h1, h2, h3⟩ := hs
            exact ⟨z, h1, h2, h3.kept hg (fun e => by have := (hr c e.symm).1; omega)⟩) (ownFrom_below (by omega) (by omega))
        case hIx =>
          rintro co pre X Y row (h | ⟨h1, ⟨h2, h3⟩, h4⟩) hg hr
          · exact .inl h
          · exact .inr ⟨h1, ⟨h2, h3.kept hg (fun e => by have := (hr c e.symm).1; omega)⟩, ownFrom_below (by omega) (by omega) () X Y row h4 hg hr⟩
        case assign =>
          intro l x W K hK
          rw [fold2]
          simp only [List.setIfInBounds_toArray, List.set_cons_succ, List.set_cons_zero]
          repeat gi_step
          exact hK
        case body =>
          rintro l pre x W' ⟨⟨z, ⟨hz, hzm⟩, hpre, bn⟩, hB⟩ hlen hbig
          obtain ⟨v, hv⟩ : ∃ v, x.1.2 = .int .i64 v := x.2
          obtain ⟨xk, hxk⟩ : ∃ xk, x.1.1 = xk := ⟨_, rfl⟩
          simp only [hv, hxk]
          have HX : Hid (x.1 = (xk, .int .i64 v) ∧ pre.map Subtype.val = kv (R.take z)) := Lib.hid ⟨by rw [← hv, ← hxk], hpre⟩
          obtain ⟨hSw, hWw⟩ := HSX.out W' hB
          have hcw := hWw.1.cell
          have hcm := hSw.1.cell
          have hbp := hSw.2.1.cell
          have hfp := hSw.2.1.frozen
          have hcn := bn.cell
          have hfn := bn.frozen
          have HB0 := Lib.hid (And.intro bn hB)
          have hml : (mo : Int) ≤ 64 := HMO.out.2
          have hzm2 : (z : Int) < (mo : Int) := by omega
          have hGL := HGL.out
          clear hv hxk hlen bn hB hpre hbig hSw
          by_cases hzl : z < R.length
          · have hzG : z < LG := by omega
            have hzI : ¬ (LG : Int) ≤ (z : Int) := by omega
            have hzJ : (z : Int) < (LG : Int) := by omega
            have hzG2 : z < G.length := by rw [← HG.out.2]; exact hzG
            obtain ⟨g5, rfl, _⟩ := hWw.2.1.blk (by omega)
            obtain ⟨hk1, hk2⟩ := hWw.2.1.cell z hzG2
            have hge : G[z] = R[z] := by
              have h9 := HG.out.1
              subst h9
              rw [List.getElem_take]
            rw [hge] at hk1 hk2
            obtain ⟨pk, hpk⟩ : ∃ pk, pk = (R[z]).1 := ⟨_, rfl⟩
            obtain ⟨pz, hpz⟩ : ∃ pz, pz = (R[z]).2 := ⟨_, rfl⟩
            rw [← hpk] at hk1
            rw [← hpz] at hk2
            have HPZ : Hid (R[z] = (pk, pz)) := Lib.hid (by rw [hpk, hpz])
            clear hge hpk hpz hWw hGL
            by_cases hxy : xk = pk
            · subst hxy
              by_cases hvz : v = pz
              · subst hvz
                have HF : Hid ((KeepsFrom W6.heap.size W' (W'.setCell ⟨c, 0, none⟩ (.int .i64 ((z : Int) + 1))) ∧ SameIn (W6.heap.size + 2) 1 W' (W'.setCell ⟨c, 0, none⟩ (.int .i64 ((z : Int) + 1)))) ∧ KpB (fun x => (n0 ≤ x ∧ x < q) ∨ x = c + 1 + 1 + 1) (c + 4) W' (W'.setCell ⟨c, 0, none⟩ (.int .i64 ((z : Int) + 1))) ∧ ((pre ++ [x]).map Subtype.val = kv (R.take (z + 1)) ∧ Boxed (W'.setCell ⟨c, 0, none⟩ (.int .i64 ((z : Int) + 1))) c 3 (.int .i64 ((z + 1 : Nat) : Int))) ∧ Below c W6 (W'.setCell ⟨c, 0, none⟩ (.int .i64 ((z : Int) + 1)))) := Lib.hid (by
                  obtain ⟨h1, h2⟩ := HB0.out
                  have h9 := HPW.out.2
                  refine ⟨⟨(KeepsOthers.setCell _ _ _).from _, same_set _ _ (by omega)⟩, ⟨by simp, fun y hy _ => Below.heap_setCell W' ⟨c, 0, none⟩ _ y (by show y ≠ c; omega)⟩, ⟨?_, h1.set _⟩, h2.setCell (p := ⟨c, 0, none⟩) (Nat.le_refl _) _⟩
                  rw [List.map_append, List.map_cons, List.map_nil, HX.out.2, HX.out.1, ← kv_next hzl, HPZ.out])
                have hcm2 : (W'.setCell ⟨c, 0, none⟩ (.int .i64 ((z : Int) + 1))).cell? ⟨w.heap.size, 0, none⟩ = some (.int .i64 (mo : Int)) := (World.cell?_of_block (a := ⟨w.heap.size, 0, none⟩) (Below.heap_setCell W' ⟨c, 0, none⟩ _ w.heap.size (by show w.heap.size ≠ c; have := HPW.out; omega))).trans hcm
                clear HB0
                by_cases hem : z + 1 = mo
                · have hd : (((z : Int) + 1) == (mo : Int)) = true := by rw [beq_iff_eq]; omega
                  have HF2 : Hid (mo ≤ R.length ∧ Boxed (W'.setCell ⟨c, 0, none⟩ (.int .i64 ((z : Int) + 1))) c 3 (.int .i64 (mo : Int))) := Lib.hid ⟨by omega, by rw [← hem]; exact HF.out.2.2.1.2⟩
                  clear hem
                  gi_wp2
                  exact ⟨⟨HF.out.1.1, .inr ⟨rfl, HF2.out, HF.out.2.2.2⟩⟩, HF.out.1.2⟩
                · have hd : (((z : Int) + 1) == (mo : Int)) = false := by rw [beq_eq_false_iff_ne]; omega
                  have HE : Hid (z + 1 ≤ R.length ∧ z + 1 < mo) := Lib.hid ⟨hzl, by omega⟩
                  clear hem
                  gi_wp2
                  exact ⟨⟨HF.out.1.1, HF.out.2.1, ⟨z + 1, HE.out, HF.out.2.2.1⟩, HF.out.2.2.2⟩, HF.out.1.2⟩
              · have hvz2 : (pz == v) = false := by simpa using fun e => hvz e.symm
                have HS : Hid (StopP R (pre ++ [x])) := Lib.hid ⟨pre, x, z, rfl, HX.out.2, hz, fun ⟨h, e⟩ => hvz (by
                  rw [HPZ.out, HX.out.1] at e
                  injection e with _ e
                  injection e with _ e)⟩
                have HSM : Hid (w.heap.size + 1 < W6.heap.size + 2) := Lib.hid (by have := HPW.out; omega)
                clear hvz HB0
                gi_wp2
                exact ⟨⟨(KeepsOthers.setCell _ _ _).from _, .inl ⟨rfl, HS.out⟩⟩, same_set _ _ HSM.out⟩
            · have hxy2 : (pk.toList == xk.toList) = false := by
                refine Bool.eq_false_iff.2 fun e => hxy ?_
                exact ((same_key _ _).1 e).symm
              have HS : Hid (StopP R (pre ++ [x])) := Lib.hid ⟨pre, x, z, rfl, HX.out.2, hz, fun ⟨h, e⟩ => hxy (by
                rw [HPZ.out, HX.out.1] at e
                exact (Prod.mk.inj e).1)⟩
              have HSM : Hid (w.heap.size + 1 < W6.heap.size + 2) := Lib.hid (by have := HPW.out; omega)
              clear hxy HB0
              gi_wp2
              exact ⟨⟨(KeepsOthers.setCell _ _ _).from _, .inl ⟨rfl, HS.out⟩⟩, same_set _ _ HSM.out⟩
          · have hzI : (LG : Int) ≤ (z : Int) := by omega
            have HS : Hid (StopP R (pre ++ [x])) := Lib.hid ⟨pre, x, z, rfl, HX.out.2, hz, fun ⟨h, _⟩ => hzl h⟩
            have HSM : Hid (w.heap.size + 1 < W6.heap.size + 2) := Lib.hid (by have := HPW.out; omega)
            clear hzl HB0 hWw hGL
            gi_wp2
            exact ⟨⟨(KeepsOthers.setCell _ _ _).from _, .inl ⟨rfl, HS.out⟩⟩, same_set _ _ HSM.out⟩
        case done =>
          rintro D ys W' hD e ⟨⟨z, ⟨hz, hzm⟩, hpre, bn⟩, hB⟩ hK
          have hzl : z = R.length := by
            rw [e] at hpre
            have h1 := congrArg List.length hpre
            rw [kv_length, kv_length, List.length_take] at h1
            omega
          have : z = LG := by have := HGL.out; omega
          rw [this] at bn
          exact ⟨.inl rfl, D, rfl, hD, hK, bn, hB⟩
        case stop =>
          rintro D co pre W' hD hsp h hK
          rcases h with ⟨rfl, h⟩ | ⟨rfl, ⟨h2, bn⟩, hB⟩
          · exact (stop_not h hsp).elim
          · have : mo = LG := by have := HGL.out; omega
            rw [this] at bn
            exact wpIn_exit ⟨.inr rfl, D, rfl, hD, hK, bn, hB⟩
      case rest =>
        rintro D W' ⟨hD, hK, bn, hB⟩
        obtain ⟨hSw, hWw⟩ := HSX.out W' hB
        have HR : Hid (SR w W' w.heap.size n0 q t a4 c4 ps mo ∧ WR W' q (q + 1) (.slice a5 LG c5) G ∧ Boxed W' c 3 (.int .i64 (LG : Int)) ∧ W'.heap[D]? = some (.deferred (some [])) ∧ (c + 4 ≤ D ∧ D < W'.heap.size ∧ c < W'.heap.size ∧ q + 1 < W'.heap.size)) := Lib.hid ⟨hSw, hWw, bn, hK, by
          have h1 := (Array.getElem?_eq_some_iff.1 hK).1
          have h2 := HSZ.out
          have h3 := HPW.out.2
          omega⟩
        have hLG : (LG : Int) ≤ 64 := by have := HMO.out; have := HGL.out; omega
        clear hD hK bn hB hSw hWw HST HBN HSX HALL HB1 HB2 HP0 HW0 HH HFW
        go_wp2_with fail
        obtain ⟨W7, hW7⟩ : ∃ W7, W7 = (W'.alloc (.cells #[.pointer none] 25)).alloc (.cells #[.string ⟨#[]⟩] 9) := ⟨_, rfl⟩
        refine (from_any none ⟨#[]⟩ _).mono ?_
        rintro e w7 ⟨rfl, hw7⟩
        obtain ⟨d, hd⟩ : ∃ d, d = W'.heap.size := ⟨_, rfl⟩
        have HA7 : Hid (Below d W' w7 ∧ Boxed w7 d 25 (.pointer none) ∧ w7.heap.size = d + 2) := Lib.hid (by
          have h1 := (Boxed.new W' 25 (.pointer none)).alloc (.cells #[.string ⟨#[]⟩] 9)
          rw [hw7, hd]
          exact ⟨((Below.refl _ _).alloc (Nat.le_refl _) _).alloc (by simp) _, h1, by simp⟩)
        have HD := Lib.hid hd
        rw [← hd]
        clear hw7 hW7 hd
        go_wp2_with fail
        have hst := from_nil 2 d (d + 1) w7 HA7.out.2.1.cell HA7.out.2.1.lt
        have hz7 : w7.heap.size = d + 2 := HA7.out.2.2
        refine (wpIn_wide (n := 3)).1 ?_
        refine' wpIn_rangeR rfl (by omega) (gf := 23) (lb := #[.pointer (some ⟨d, 0, none⟩), .pointer (some ⟨d + 1, 0, none⟩)]) rfl trivial (enters_of Try.func23 (by kernel_rfl) rfl)
          hst (fun _ _ => trivial) (fun _ _ _ _ _ _ _ _ => trivial) (Below.refl _ _) (fun _ => rfl)
          (fun pre W' => pre = [] ∧ Below d w7 W') (fun _ _ _ => False)
          (OwnFrom.and (fun pre X Y row hs hg hr => hs) (ownFrom_below (by omega) (by omega))) (fun _ _ _ _ _ h _ _ => h) ⟨rfl, Below.refl _ _⟩ _ ?assign2 ?body2 ?done2 ?stop2
        case assign2 =>
          intro l x W K hK
          rw [fold2]
          simp only [List.setIfInBounds_toArray, List.set_cons_succ, List.set_cons_zero]
          repeat gi_step
          exact hK
        case body2 =>
          intro l pre x W' _ h
          exact absurd h (Nat.not_lt_zero _)
        case stop2 =>
          rintro D2 co pre W2 _ h
          exact h.elim
        case done2 =>
          rintro D2 ys W2 hD2 _ ⟨_, hB2⟩ hK2
          have hB3 : Below d W' W2 := HA7.out.1.trans hB2
          obtain ⟨hSw, hWw, bn, hK, hD3, hD4, hc6, hq6⟩ := HR.out
          have hdd := HD.out
          have hcn : W2.cell? ⟨c, 0, none⟩ = some (.int .i64 (LG : Int)) := (show Boxed W2 c 3 (.int .i64 (LG : Int)) from (hB3.block c (by omega)).trans bn).cell
          have hcw : W2.cell? ⟨q + 1, 0, none⟩ = some (.slice a5 LG c5) := (show Boxed W2 (q + 1) 26 (.slice a5 LG c5) from (hB3.block _ (by omega)).trans hWw.1).cell
          have hpq := hSw.2.2.2.2.2.2
          have HF2 : Hid (∀ W, Below W2.heap.size W2 W → Boxed W (w.heap.size + 1) 4 (.bool false) ∧ Below w.heap.size w W ∧ W.heap[D]? = some (.deferred (some [])) ∧ W.heap[D2]? = some (.deferred (some []))) := Lib.hid fun W hb => by
            have h1 : Below d W' W := hB3.trans (hb.mono (by have := hB3.size; omega))
            have h2 := hSw.below (h1.mono (by omega))
            exact ⟨h2.2.1, h2.2.2.1, (h1.block D (by omega)).trans hK, (hb.block D2 (Array.getElem?_eq_some_iff.1 hK2).1).trans hK2⟩
          have HDD : Hid (w.heap.size + 1 < D ∧ D < D2) := Lib.hid (by have := HPW.out; have := HA7.out.2.2; omega)
          clear hB2 hB3 hSw hWw bn hK hD3 hD4 hc6 hq6 hdd hpq hD2 hK2 hst HR HA7
          go_wp2_with fail
          refine (len_no _).mono ?_
          rintro e w8 ⟨rfl, hb8⟩
          have HB8 := Lib.hid hb8
          clear hb8 hcn hcw
          go_wp2_with fail
          refine (put_nil _ _ _).mono ?_
          rintro e w9 ⟨rfl, hb9⟩
          have HB9 := Lib.hid (HB8.out.trans (hb9.mono HB8.out.size))
          clear hb9
          go_wp2_with fail
          refine (drop_nil _ _).mono ?_
          rintro e w10 ⟨rfl, hb10⟩
          have HB10 := Lib.hid (HB9.out.trans (hb10.mono HB9.out.size))
          clear hb10
          go_wp2_with fail
          refine (clone_nil _).mono ?_
          rintro e w11 ⟨rfl, hb11⟩
          have HB11 := Lib.hid (HB10.out.trans (hb11.mono HB10.out.size))
          have hbx := (HF2.out w11 HB11.out).1
          have hbc := hbx.cell
          have hbf := hbx.frozen
          clear hb11 hbx
          go_wp2_with fail
          obtain ⟨bx, hbw, hK1, hK2⟩ := HF2.out w11 HB11.out
          have hdd := HDD.out
          have bx2 : Boxed (w11.setCell ⟨w.heap.size + 1, 0, none⟩ (.bool true)) (w.heap.size + 1) 4 (.bool true) := bx.set _
          have hK2' : (w11.setCell ⟨w.heap.size + 1, 0, none⟩ (.bool true)).heap[D2]? = some (.deferred (some [])) := (Below.heap_setCell w11 ⟨w.heap.size + 1, 0, none⟩ (.bool true) D2 (by show D2 ≠ w.heap.size + 1; omega)).trans hK2
          have hK1' : ((w11.setCell ⟨w.heap.size + 1, 0, none⟩ (.bool true)).putObj D2 (.deferred none)).heap[D]? = some (.deferred (some [])) := (World.putObj_heap_other (by omega)).trans ((Below.heap_setCell w11 ⟨w.heap.size + 1, 0, none⟩ (.bool true) D (by show D ≠ w.heap.size + 1; omega)).trans hK1)
          refine ⟨by simp, .inl ⟨_, _, rfl, run_takeDeferred hK2', ?_⟩⟩
          refine ⟨by simp, .inl ⟨_, _, rfl, run_takeDeferred hK1', ?_⟩⟩
          have hc4 := cell_kept bx2.cell (grownBy_putObj' _ D2 (.deferred none)) (fun r e => by cases e; exact ⟨_, hK2', rfl⟩)
          have hc5 := cell_kept hc4 (grownBy_putObj' _ D (.deferred none)) (fun r e => by cases e; exact ⟨_, hK1', rfl⟩)
          refine ⟨.bool true, ?_, rfl, ((hbw.setCell (p := ⟨w.heap.size + 1, 0, none⟩) (Nat.le_succ _) _).trans (belowK_b (w := w) (Nat.le_refl _) _ D2 _ _ (by omega) hK2' rfl rfl)).trans (belowK_b (w := w) (Nat.le_refl _) _ D _ _ (by omega) hK1' rfl rfl)⟩
          simp [results, Try.f4, go_sem, hc5]

theorem walk {w : World} (a : Option Addr) (la ca : Nat) (wa : ∃ vs, ActsCame w a la ca vs) (key : ByteArray) (wk : key.size ≤ maxLen) (to : ByteArray) (wt : to.size ≤ maxLen) (mi : Int) (wm : (Lit.int .i64 mi).wf = true) :
    Calls Try.prog 4 #[.slice a la ca, .string key, .string to, .int .i64 mi] w fun e W' => e = .returned (.bool true) ∧ Below w.heap.size w W' := by
  obtain ⟨vs, wa⟩ := wa
  exact walk_main a la ca vs wa key wk to wt mi

end Go.Proofs.Ytkohmiegkebmeaa.treeRanges
