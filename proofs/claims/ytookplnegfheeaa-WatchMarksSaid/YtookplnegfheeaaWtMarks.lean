/-
  WatchMarks: its walk.
-/
import Derived.Test.YtookplnegfheeaaWtMkArg
import Derived.Test.YtookplnegfheeaaWtHd
namespace Go.Proofs.Ytookplnegfheeaa.watchMarks
open Go.RowKit Go.Maps Go.MapKept Go.WideMaps Go.ChangeMaps Go.Proofs.Ytookplnegfheeaa.tC Go.Proofs.Ytookplnegfheeaa.sT Go.Proofs.Ytookplnegfheeaa.wT Go.Proofs.Ytookplnegfheeaa.wM Go.Proofs.Ytookplnegfheeaa.iM

set_option linter.unusedVariables false
set_option linter.unusedSimpArgs false

theorem and_3 (n : Int) : bits .and .i64 n 3 = n % 4 := by
  have hc : (BitVec.ofInt 64 3).toNat = 2 ^ 2 - 1 := by decide
  have key : (BitVec.ofInt 64 n &&& BitVec.ofInt 64 3).toNat = (n % ((2 ^ 64 : Nat) : Int)).toNat % 2 ^ 2 := by
    rw [BitVec.toNat_and, BitVec.toNat_ofInt, hc, Nat.and_two_pow_sub_one_eq_mod]
  show IntKind.i64.wrap ((BitVec.ofInt 64 n &&& BitVec.ofInt 64 3).toNat : Nat) = n % 4
  rw [key, IntKind.wrap_i64]
  omega

/-- the marks, and the law's own map of them -/
structure MS (W wr : World) (n0 b hb i : Nat) (fs : IL) (last : Nat) : Prop where
  low : Below W.heap.size W wr
  mks : MkAt (fun q => W.heap.size ≤ q ∧ q ≠ hb ∧ q < n0) wr b i fs (last : Int)
  hd : IAt 3 wr hb i fs
  hlt : W.heap.size ≤ hb ∧ hb < n0
  n0 : n0 ≤ wr.heap.size
  la : last ≤ i
  new : ∀ p ∈ fs, p.1 ≤ (last : Int)
theorem MS.one {W wr : World} {n0 b hb i : Nat} {fs : IL} {last : Nat} (h : MS W wr n0 b hb i fs last) : One fs := by
  obtain ⟨mo, _, _, k3, _⟩ := h.mks
  exact k3
theorem MS.below {W wr w' : World} {n0 b hb i : Nat} {fs : IL} {last : Nat} (h : MS W wr n0 b hb i fs last) (hb2 : Below wr.heap.size wr w') : MS W w' n0 b hb i fs last := by
  obtain ⟨h1, h2, h3, h4, h7, h5, h6⟩ := h
  exact ⟨h1.trans (hb2.mono h1.size), h2.below hb2, h3.kept (hb2.block _ h3.lt), h4, Nat.le_trans h7 hb2.size, h5, h6⟩
theorem MS.top {W wr : World} {n0 n1 b hb i : Nat} {fs : IL} {last : Nat} (h : MS W wr n0 b hb i fs last) (h1 : n0 ≤ n1) (h2 : n1 ≤ wr.heap.size) : MS W wr n1 b hb i fs last :=
  ⟨h.low, h.mks.keep fun q hq _ => ⟨rfl, hq.1, hq.2.1, by omega⟩, h.hd, ⟨h.hlt.1, by have := h.hlt.2; omega⟩, h2, h.la, h.new⟩
theorem MS.next {W wr : World} {n0 b hb i : Nat} {fs : IL} {last : Nat} (h : MS W wr n0 b hb i fs last) : MS W wr wr.heap.size b hb (i + 1) fs last := by
  obtain ⟨h1, ⟨mo, a1, a2, a3, a4⟩, h3, h4, h7, h5, h6⟩ := h.top h.n0 (Nat.le_refl _)
  exact ⟨h1, ⟨mo, a1, a2, a3, a4.imp id fun ⟨mb, c1, c2, c3⟩ => ⟨mb, c1, c2, c3.mono (by omega)⟩⟩, h3.mono (by omega), h4, h7, by omega, h6⟩
theorem MS.look {W wr : World} {n0 b hb i : Nat} {fs : IL} {last : Nat} (h : MS W wr n0 b hb i fs last) {x : Int} (hx : wfI x) : (Instr.lookup 68 (.map (some hb)) (.int .i64 x) true).run Try.prog wr = .ok (.tuple #[.int .i64 ((getI x fs).getD 0), .bool (getI x fs).isSome]) wr := by
  have := h.hd.look (e := 3) Try.underlying3 Try.underlying68 (zero_i wr) hx true
  simpa using this
/-- what lies behind n0 stays -/
def KpN (n0 : Nat) (wr w3 : World) : Prop := ∀ q, n0 ≤ q → q < wr.heap.size → w3.heap[q]? = wr.heap[q]?
abbrev PM (W : World) (hb n0 : Nat) : Nat → Prop := fun q => W.heap.size ≤ q ∧ q ≠ hb ∧ q < n0
/-- behind a turn of the marks, and the same turn of the law's map -/
theorem ms_turn {W wr w2 w3 : World} {n0 b hb i : Nat} {fs fs' : IL} {last last' : Nat} (h : MS W wr n0 b hb i fs last) (hk : MkAt (Nu (PM W hb n0) wr.heap.size) w2 b (i + 1) fs' (last' : Int)) (hE : Ext (PM W hb n0) wr w2) (h3 : IAt 3 w3 hb (i + 1) fs') (hg : w2.grownBy w3 (some hb)) (hl : last' ≤ i + 1) (hn : ∀ p ∈ fs', p.1 ≤ (last' : Int)) : MS W w3 w3.heap.size b hb (i + 1) fs' last' ∧ KpN n0 wr w3 := by
  have hz := h.low.size
  have hn0 := h.n0
  have hh := h.hlt
  have hz2 : wr.heap.size ≤ w2.heap.size := hE.2.2.2.1
  have hz3 := hg.size
  have hlow2 : Below W.heap.size W w2 := h.low.trans (ext_below hE (fun q hq => hq.1) hz)
  have hnu : ∀ q, Nu (PM W hb n0) wr.heap.size q → W.heap.size ≤ q ∧ q ≠ hb := fun q h => by
    rcases h with h | h
    · exact ⟨h.1, h.2.1⟩
    · have h : wr.heap.size ≤ q := h
      exact ⟨by omega, by omega⟩
  refine ⟨⟨hlow2.grown hg hlow2.size fun q hq => by injection hq with hq; omega, ?_, h3, ⟨hh.1, h3.lt⟩, Nat.le_refl _, hl, hn⟩, fun q h1 h2 => ?_⟩
  · refine hk.keep fun q hq hlt => ⟨hg.block q hlt fun e => ?_, (hnu q hq).1, (hnu q hq).2, by omega⟩
    injection e with e
    exact (hnu q hq).2 e
  · exact (hg.block q (by omega) fun e => by injection e with e; omega).trans (hE.2.2.2.2 q h2 fun hp => by have := hp.2.2; omega)
theorem hd_kept {W wr w2 : World} {n0 b hb i : Nat} {fs : IL} {last : Nat} (h : MS W wr n0 b hb i fs last) (hE : Ext (PM W hb n0) wr w2) : IAt 3 w2 hb i fs := h.hd.kept (hE.2.2.2.2 hb h.hd.lt fun hq => hq.2.1 rfl)

theorem move_turn {W wr : World} {n0 b hb i : Nat} {fs : IL} {last : Nat} (h : MS W wr n0 b hb i fs last) (hi : i ≤ 300) {x : Int} (hx : wfI x) (y : Int) :
    Calls Try.prog 41 #[.pointer (some ⟨b, 0, none⟩), .int .i64 x, .int .i64 y] wr fun e w2 =>
      ((getI x fs).isSome = false ∧ e = .returned (.int .i64 5) ∧ Hid (MS W w2 w2.heap.size b hb (i + 1) fs last ∧ wr = w2)) ∨ ((getI x fs).isSome = true ∧ y < (getI x fs).getD 0 ∧ e = .returned (.int .i64 1) ∧ Hid (MS W w2 w2.heap.size b hb (i + 1) fs last ∧ wr = w2)) ∨
      ((getI x fs).isSome = true ∧ ¬ y < (getI x fs).getD 0 ∧ e = .returned (.int .i64 0) ∧ Hid (∃ w3, (Instr.mapUpdate 68 (.map (some hb)) (.int .i64 x) (.int .i64 y)).run Try.prog w2 = .ok () w3 ∧ (MS W w3 w3.heap.size b hb (i + 1) (putI x y fs) last ∧ KpN n0 wr w3) ∧ KpN n0 wr w2)) := by
  refine (move_any h.mks (by omega) hx y).mono ?_
  rintro e w2 (⟨c1, rfl, rfl⟩ | ⟨c1, c2, rfl, rfl⟩ | ⟨c1, c2, rfl, c4, c5⟩)
  · exact .inl ⟨c1, rfl, Lib.hid ⟨h.next, rfl⟩⟩
  · exact .inr (.inl ⟨c1, c2, rfl, Lib.hid ⟨h.next, rfl⟩⟩)
  · refine .inr (.inr ⟨c1, c2, rfl, Lib.hid ?_⟩)
    obtain ⟨w3, k1, k2, k3⟩ := (hd_kept h c5).store (e := 3) Try.underlying3 Try.underlying68 (by omega) hx y
    refine ⟨w3, k1, ms_turn h (c4.keep fun q hq _ => ⟨rfl, .inl hq⟩) c5 k2 k3 (by have := h.la; omega) fun p hp => ?_, fun q h1 h2 => c5.2.2.2.2 q h2 fun hp => by have := hp.2.2; omega⟩
    rcases (mem_put x y p fs).1 hp with rfl | ⟨hp, _⟩
    · obtain ⟨v, hv⟩ := Option.isSome_iff_exists.1 c1
      have := h.new (x, v) ((get_mem h.one).1 hv)
      exact this
    · exact h.new p hp
theorem drop_turn {W wr : World} {n0 b hb i : Nat} {fs : IL} {last : Nat} (h : MS W wr n0 b hb i fs last) (hi : i ≤ 300) {x : Int} (hx : wfI x) :
    Calls Try.prog 42 #[.pointer (some ⟨b, 0, none⟩), .int .i64 x] wr fun e w2 =>
      ∃ er : Int, e = .returned (.int .i64 er) ∧ ((er == 0) = (getI x fs).isSome) ∧ Hid (KpN n0 wr w2 ∧ ∃ w3, (∀ ty, (Builtin.delete_ #[68, 3] ty #[.map (some hb), .int .i64 x]).run Try.prog w2 = .ok (.tuple #[]) w3) ∧ (MS W w3 w3.heap.size b hb (i + 1) (delI x fs) last ∧ KpN n0 wr w3)) := by
  refine (mdrop_any h.mks hx).mono ?_
  have hdel : ∀ p ∈ delI x fs, p.1 ≤ (last : Int) := fun p hp => h.new p ((mem_del x p fs).1 hp).1
  rintro e w2 (⟨c1, rfl, rfl⟩ | ⟨c1, rfl, c4, c5⟩)
  · refine ⟨5, rfl, by rw [c1]; rfl, Lib.hid ⟨fun q _ _ => rfl, ?_⟩⟩
    obtain ⟨w3, k1, k2, k3⟩ := h.hd.delete (e := 3) Try.underlying3 Try.underlying68 hx 0
    have hd0 : delI x fs = fs := del_none (by simpa using c1)
    refine ⟨w3, fun ty => k1, ?_⟩
    refine ms_turn h (fs' := delI x fs) (last' := last) (w2 := wr) ?_ (Ext.refl _ _) (k2.mono (by omega)) k3 (by have := h.la; omega) hdel
    rw [hd0]
    obtain ⟨mo, a1, a2, a3, a4⟩ := h.mks
    exact ⟨mo, a1, .inl a2, a3, a4.imp id fun ⟨mb, c1, c2, c3⟩ => ⟨mb, c1, .inl c2, c3.mono (by omega)⟩⟩
  · refine ⟨0, rfl, by rw [c1]; rfl, Lib.hid ⟨fun q h1 h2 => c5.2.2.2.2 q h2 fun hp => by have := hp.2.2; omega, ?_⟩⟩
    obtain ⟨w3, k1, k2, k3⟩ := (hd_kept h c5).delete (e := 3) Try.underlying3 Try.underlying68 hx 0
    refine ⟨w3, fun ty => k1, ms_turn h ?_ c5 (k2.mono (by omega)) k3 (by have := h.la; omega) hdel⟩
    obtain ⟨mo, a1, a2, a3, a4⟩ := c4
    exact ⟨mo, a1, .inl a2, a3, a4.imp id fun ⟨mb, c1, c2, c3⟩ => ⟨mb, c1, .inl c2, c3.mono (by omega)⟩⟩
theorem hold_turn {W wr : World} {n0 b hb i : Nat} {fs : IL} {last : Nat} (h : MS W wr n0 b hb i fs last) (hi : i ≤ 300) (y : Int) :
    Calls Try.prog 43 #[.pointer (some ⟨b, 0, none⟩), .int .i64 y] wr fun e w2 =>
      (64 ≤ fs.length ∧ e = .returned (.tuple #[.int .i64 0, .int .i64 4]) ∧ Hid (MS W w2 w2.heap.size b hb (i + 1) fs last ∧ wr = w2)) ∨ (fs.length < 64 ∧ e = .returned (.tuple #[.int .i64 ((last : Int) + 1), .int .i64 0]) ∧ Hid (KpN n0 wr w2 ∧ IAt 3 w2 hb i fs ∧ ∃ w3, (Instr.mapUpdate 68 (.map (some hb)) (.int .i64 ((last : Int) + 1)) (.int .i64 y)).run Try.prog w2 = .ok () w3 ∧ (MS W w3 w3.heap.size b hb (i + 1) (putI ((last : Int) + 1) y fs) (last + 1) ∧ KpN n0 wr w3))) := by
  have hla := h.la
  refine (hold_any h.mks (by omega) (by omega) (by omega) y).mono ?_
  rintro e w2 (⟨c1, rfl, rfl⟩ | ⟨c1, rfl, c4, c5⟩)
  · exact .inl ⟨c1, rfl, Lib.hid ⟨h.next, rfl⟩⟩
  · refine .inr ⟨c1, rfl, Lib.hid ⟨fun q h1 h2 => c5.2.2.2.2 q h2 fun hp => by have := hp.2.2; omega, hd_kept h c5, ?_⟩⟩
    obtain ⟨w3, k1, k2, k3⟩ := (hd_kept h c5).store (e := 3) Try.underlying3 Try.underlying68 (by omega) (show wfI ((last : Int) + 1) from wf_of (by omega) (by omega)) y
    refine ⟨w3, k1, ms_turn h c4 c5 k2 k3 (by omega) fun p hp => ?_⟩
    rcases (mem_put ((last : Int) + 1) y p fs).1 hp with rfl | ⟨hp, _⟩
    · simp
    · have := h.new p hp
      omega
theorem least_turn {W wr : World} {n0 b hb i : Nat} {fs : IL} {last : Nat} (h : MS W wr n0 b hb i fs last) (most x : Int) (hx : IsLeast most fs x) :
    Calls Try.prog 45 #[.pointer (some ⟨b, 0, none⟩), .int .i64 most] wr fun e w2 => e = .returned (.int .i64 x) ∧ Hid (MS W w2 w2.heap.size b hb i fs last) := by
  refine (least_any h.mks most).mono ?_
  rintro e w2 ⟨y, rfl, hy⟩
  rw [hx.one hy.out.1]
  have h2 := h.below hy.out.2
  exact ⟨rfl, Lib.hid (h2.top h2.n0 (Nat.le_refl _))⟩

set_option maxRecDepth 100000 in
theorem walk_out {w : World} (a : Option Addr) (len cap : Nat) (most : Int) (h : 200 < len) :
    Calls Try.prog 9 #[.slice a len cap, .int .i64 most] w fun e W' => e = .returned (.bool true) ∧ Below w.heap.size w W' := by
  have hI : (200 : Int) < (len : Int) := by omega
  clear h
  go_enter Try.func9, Try.ntmps9
  go_wp2_with fail
  refine (head17_any _).mono ?_
  rintro e w1 ⟨rfl, hb1⟩
  have HB1 := Lib.hid hb1
  clear hb1
  go_wp2
  first | exact ⟨rfl, HB1.out⟩ | (go_ret; exact ⟨rfl, HB1.out⟩)


set_option maxHeartbeats 8000000 in
set_option maxRecDepth 100000 in
theorem walk_main {w : World} (a : Option Addr) (len cap : Nat) (vs : List AC) (hcame : ActsCame w a len cap vs) (hle : len ≤ 200) (most : Int) :
    Calls Try.prog 9 #[.slice a len cap, .int .i64 most] w fun e W' => e = .returned (.bool true) ∧ Below w.heap.size w W' := by
  obtain ⟨hvl, _, _, hacts, hok⟩ := hcame
  have hI : ((200 : Int) < (len : Int)) = False := eq_false (by omega)
  have HA := Lib.hid (And.intro hacts (And.intro hok hvl))
  have hmm := @run_makeMap Try.prog
  clear hacts hok hvl
  go_enter Try.func9, Try.ntmps9
  go_wp2_with fail
  refine (head17_any _).mono ?_
  rintro e w1 ⟨rfl, hb1⟩
  have HB1 := Lib.hid hb1
  clear hb1
  go_wp2_with fail
  refine (mk_new _).mono ?_
  rintro e w2 ⟨b, rfl, hN⟩
  have H0 : Hid (MS w (w2.alloc (.map #[] 0)) (w2.alloc (.map #[] 0)).heap.size b w2.heap.size 0 [] 0) := Lib.hid (by
    obtain ⟨_, h1, h2⟩ := hN.out
    have hs := HB1.out.size
    have hs2 := h2.size
    have hbA : Below w2.heap.size w2 (w2.alloc (.map #[] 0)) := (Below.refl _ _).alloc (Nat.le_refl _) _
    have hlow : Below w.heap.size w w2 := HB1.out.trans (h2.mono hs)
    have hsz : (w2.alloc (.map #[] 0)).heap.size = w2.heap.size + 1 := by simp
    refine ⟨hlow.trans (hbA.mono hlow.size), (h1.below hbA).keep fun q hq _ => ⟨rfl, by have := hq.1; have := hq.2; exact ⟨by omega, by omega, by omega⟩⟩, IAt.made 3 w2, ⟨by omega, by omega⟩, Nat.le_refl _, Nat.le_refl _, fun p hp => by simp at hp⟩)
  clear hN HB1
  go_wp2_with fail
  clear hmm
  obtain ⟨hb, hhb⟩ : ∃ hb, hb = w2.heap.size := ⟨_, rfl⟩
  have hhz : (w2.alloc (.map #[] 0)).heap.size = w2.heap.size + 1 := by simp
  rw [← hhb] at H0 ⊢
  clear hhb hhz
  go_loopw [35, 7] (fun iv nv wr => ∃ (i la : Nat) (fs : IL), i ≤ len ∧ la ≤ i ∧ iv = .int .i64 (i : Int) ∧ nv = .int .i64 (la : Int) ∧ Hid (MS w wr wr.heap.size b hb i fs la)) (fun iv _ _ => len - (intOf iv).toNat)
  case atStart => exact ⟨0, 0, [], Nat.zero_le _, Nat.le_refl _, rfl, rfl, H0⟩
  case round =>
    obtain ⟨i, la, fs, hi, hla, rfl, rfl, hst⟩ := hrel
    clear H0
    obtain ⟨wo, hwo⟩ : ∃ wo, wo = wr := ⟨_, rfl⟩
    subst hwo
    by_cases hil : i < len
    · have hiI : (i : Int) < (len : Int) := by omega
      have hic : i < vs.length := by rw [HA.out.2.2]; exact hil
      obtain ⟨b1, o1, rfl, hlt1, m0, m1, m2⟩ := (HA.out.1.below hst.out.low).at_ i hic
      have hwf := HA.out.2.1 _ (List.getElem_mem hic)
      obtain ⟨y, hy⟩ : ∃ y, y = vs[i] := ⟨_, rfl⟩
      rw [← hy] at m0 m1 m2 hwf
      clear hy
      obtain ⟨ak, an, am⟩ := y
      simp only at m0 m1 m2
      have HWF : Hid (wfI an) := Lib.hid hwf
      have hbA : Below wo.heap.size wo (wo.alloc (.cells #[.int .i64 ak, .int .i64 an, .int .i64 am] 70)) := (Below.refl _ _).alloc (Nat.le_refl _) _
      have HS := Lib.hid (hst.out.below hbA)
      have hbx := Box.new wo 70 #[.int .i64 ak, .int .i64 an, .int .i64 am]
      obtain ⟨wa, hwa⟩ : ∃ wa, wa = wo.alloc (.cells #[.int .i64 ak, .int .i64 an, .int .i64 am] 70) := ⟨_, rfl⟩
      rw [← hwa] at HS hbx
      have HBXA := Lib.hid hbx
      have HWA := Lib.hid hwa
      have hlk := HS.out.look HWF.out
      obtain ⟨z0, hz0⟩ : ∃ z, z = (getI an fs).getD 0 := ⟨_, rfl⟩
      obtain ⟨t0, ht0⟩ : ∃ t, t = (getI an fs).isSome := ⟨_, rfl⟩
      rw [← hz0, ← ht0] at hlk
      rw [hwa] at hlk
      have HZT := Lib.hid (And.intro hz0 ht0)
      have hand := and_3 ak
      obtain ⟨q, hq4, hqq⟩ : ∃ q : Nat, q < 4 ∧ ak % 4 = (q : Int) := ⟨(ak % 4).toNat, by omega, by omega⟩
      rw [hqq] at hand
      obtain ⟨BX, hBX⟩ : ∃ BX, BX = wo.heap.size := ⟨_, rfl⟩
      have HBX0 : Hid (Box wa BX 70 #[.int .i64 ak, .int .i64 an, .int .i64 am]) := Lib.hid (by rw [hBX]; exact hbx)
      clear hst hwf hbA hbx hz0 ht0 hqq hwa
      have x0 := HBX0.out.cell 0
      have x1 := HBX0.out.cell 1
      have x2 := HBX0.out.cell 2
      simp only [List.getElem?_toArray, List.getElem?_cons_zero, List.getElem?_cons_succ] at x0 x1 x2
      have HBXe := Lib.hid hBX
      rw [← hBX] at HS
      clear hBX
      go_upto_region 12 with fail
      rw [← HWA.out, ← HBXe.out]
      clear hlk HWA HBXe HBXA m0 m1 m2
      by_cases hq2 : q = 2
      · subst hq2
        have e2 : True := trivial
        have HMV := Lib.hid (move_turn HS.out (by omega) HWF.out am)
        go_wp2_with fail
        refine HMV.out.mono ?_
        rintro e w3 (⟨c1, rfl, hX⟩ | ⟨c1, c2, rfl, hX⟩ | ⟨c1, c2, rfl, hX⟩)
        · obtain ⟨h1, hw3⟩ := hX.out
          obtain rfl : t0 = false := by rw [HZT.out.2]; exact c1
          subst hw3
          obtain ⟨gs, hgs⟩ : ∃ gs, gs = fs := ⟨_, rfl⟩
          obtain ⟨la2, hla2⟩ : ∃ la2, la2 = la := ⟨_, rfl⟩
          subst hgs hla2
          have HM := Lib.hid h1
          have HBX := HBX0
          clear c1 hX h1 HS HZT HMV HBX0 x0 x2
          -- tail: world wa, list gs, HM : Hid (MS w wa b hb (i + 1) gs la2)
          obtain ⟨n9, hn9⟩ : ∃ n9, n9 = wa.heap.size := ⟨_, rfl⟩
          obtain ⟨D0, hD0⟩ : ∃ D0, D0 = im gs := ⟨_, rfl⟩
          have HOWN : Hid (wa.ownsMap Try.prog 3 RI hb (i + 1) D0) := Lib.hid (by rw [hD0]; exact HM.out.hd)
          have HD0 := Lib.hid hD0
          have HO : Hid (One gs) := Lib.hid HM.out.one
          have HN9 := Lib.hid hn9
          clear hD0 hn9
          go_wp2_with (first
            | (at_range; refine wpList_range_own _ rfl _ 68 rfl 3 3 law_i Try.underlying68 RI hb (i + 1) D0 rfl HOWN.out ?_; intro w0 hrg0 hg0 hs0)
            | fail)
          go_frame
          have HST : Hid (∃ (left : Lit → Bool) (cnt : Nat), w0.ranges Try.prog 3 RI hb wa.heap.size (i + 1) D0 left cnt ∧ LeastSo most gs left most ∧ Below wa.heap.size wa w0) := Lib.hid (by
            refine ⟨_, _, hrg0, ⟨Int.le_refl _, fun p hp hl => ?_, .inl rfl⟩, (Below.refl wa.heap.size wa).grown hg0 (Nat.le_refl _) (fun q hq => by cases hq)⟩
            exfalso
            rw [HD0.out] at hl
            have : Maps.has (im gs) (.int .i64 p.1) = true := by
              unfold im Maps.has
              simp only [List.any_map, List.any_eq_true]
              exact ⟨p, hp, by simp [Lit.sameKey]⟩
            rw [this] at hl
            cases hl)
          clear hrg0 hg0 hs0
          rw [← HN9.out] at HST ⊢
          go_loopw [16] (fun v wl => ∃ x, v = .int .i64 x ∧ Hid (∃ (left : Lit → Bool) (cnt : Nat), wl.ranges Try.prog 3 RI hb n9 (i + 1) D0 left cnt ∧ LeastSo most gs left x ∧ Below n9 wa wl)) (fun _ wl => wl.rangeLeft hb n9)
          case atStart => exact ⟨most, rfl, HST⟩
          case round =>
            obtain ⟨lx, rfl, hrel⟩ := hrel
            obtain ⟨left, cnt, hrg, hps, hbw⟩ := hrel.out
            have HREL := Lib.hid (And.intro hps hbw)
            clear hrel HST hps hbw
            go_wp2_with (first
              | (at_next; refine wpList_next_ranges _ rfl _ rfl 3 law_i RI (Value.int .i64) (fun v => v) (fun key kl hk => by obtain ⟨s, e, _⟩ := Maps.keyOf_int_inv Try.underlying3 hk; exact ⟨s, e⟩) (fun v _ _ => ⟨v, rfl⟩) hb n9 (i + 1) D0 left cnt rfl hrg ?_ ?_)
              | fail)
            · intro hc0 hl0
              have HMW : Hid (MS w wr wr.heap.size b hb (i + 1) gs la2) := Lib.hid (by
                have h9 := HM.out.below (by rw [HN9.out] at HREL; exact HREL.out.2)
                exact h9.top h9.n0 (Nat.le_refl _))
              have HLE := Lib.hid (least_turn HMW.out most lx (by
                obtain ⟨⟨a1, a2, a3⟩, _⟩ := HREL.out
                exact ⟨a1, fun p hp => a2 p hp (hl0 _), a3⟩))
              have HMK := Lib.hid (mark_any HMW.out.mks HWF.out)
              have hlk := HMW.out.look HWF.out
              obtain ⟨z9, hz9⟩ : ∃ z, z = (getI an gs).getD 0 := ⟨_, rfl⟩
              obtain ⟨t9, ht9⟩ : ∃ t, t = (getI an gs).isSome := ⟨_, rfl⟩
              rw [← hz9, ← ht9] at HMK hlk
              have hbx := (HREL.out.2).block BX (by rw [HN9.out]; exact HBX.out.lt)
              have hbxx : Box wr BX 70 #[.int .i64 ak, .int .i64 an, .int .i64 am] := hbx.trans HBX.out
              have x1 := hbxx.cell 1
              simp only [List.getElem?_toArray, List.getElem?_cons_zero, List.getElem?_cons_succ] at x1
              clear hrg hl0 hc0 HREL hz9 ht9 HM hbx hbxx
              go_wp2_with fail
              refine HMK.out.mono ?_
              rintro e w8 ⟨rfl, rfl⟩
              go_wp2_with fail
              refine HLE.out.mono ?_
              rintro e w8 ⟨rfl, HM8⟩
              clear HLE HMK hlk
              go_wp2
              go_roundw
              case rel => exact ⟨i + 1, la2, gs, by omega, by omega, by go_num, by go_num, HM8⟩
              case measure => simp [intOf]; omega
            · intro k cv kl ya yb w1x cnt1 hkey hlk hRv hat hrg1 hlt hg1 hs1 hen
              rw [HD0.out] at hat
              obtain ⟨rfl, z, rfl, hmem⟩ := entry_i HO.out hkey hRv hat
              have HST2 : Hid (∃ (left : Lit → Bool) (cnt : Nat), w1x.ranges Try.prog 3 RI hb n9 (i + 1) D0 left cnt ∧ LeastSo most gs left (min lx z) ∧ Below n9 wa w1x) := Lib.hid
                ⟨_, _, hrg1, HREL.out.1.step HO.out hmem, HREL.out.2.grown hg1 (by have := HREL.out.2.size; rw [HN9.out]; exact this) fun q hq => by injection hq with hq; omega⟩
              have HM9 : Hid (w1x.rangeLeft hb n9 < wr.rangeLeft hb n9) := Lib.hid (by rw [hrg.left_eq, hrg1.left_eq]; exact hlt)
              clear hrg hlk hRv hat hrg1 hlt hg1 hs1 hmem hkey HREL
              go_wp2
              go_roundw
              case rel => exact ⟨_, rfl, HST2⟩
              case measure => exact HM9.out
        · obtain ⟨h1, hw3⟩ := hX.out
          obtain rfl : t0 = true := by rw [HZT.out.2]; exact c1
          have c3 : am < z0 := by rw [HZT.out.1]; exact c2
          subst hw3
          obtain ⟨gs, hgs⟩ : ∃ gs, gs = fs := ⟨_, rfl⟩
          obtain ⟨la2, hla2⟩ : ∃ la2, la2 = la := ⟨_, rfl⟩
          subst hgs hla2
          have HM := Lib.hid h1
          have HBX := HBX0
          clear c1 c2 hX h1 HS HZT HMV HBX0 x0
          -- tail: world wa, list gs, HM : Hid (MS w wa b hb (i + 1) gs la2)
          obtain ⟨n9, hn9⟩ : ∃ n9, n9 = wa.heap.size := ⟨_, rfl⟩
          obtain ⟨D0, hD0⟩ : ∃ D0, D0 = im gs := ⟨_, rfl⟩
          have HOWN : Hid (wa.ownsMap Try.prog 3 RI hb (i + 1) D0) := Lib.hid (by rw [hD0]; exact HM.out.hd)
          have HD0 := Lib.hid hD0
          have HO : Hid (One gs) := Lib.hid HM.out.one
          have HN9 := Lib.hid hn9
          clear hD0 hn9
          go_wp2_with (first
            | (at_range; refine wpList_range_own _ rfl _ 68 rfl 3 3 law_i Try.underlying68 RI hb (i + 1) D0 rfl HOWN.out ?_; intro w0 hrg0 hg0 hs0)
            | fail)
          go_frame
          have HST : Hid (∃ (left : Lit → Bool) (cnt : Nat), w0.ranges Try.prog 3 RI hb wa.heap.size (i + 1) D0 left cnt ∧ LeastSo most gs left most ∧ Below wa.heap.size wa w0) := Lib.hid (by
            refine ⟨_, _, hrg0, ⟨Int.le_refl _, fun p hp hl => ?_, .inl rfl⟩, (Below.refl wa.heap.size wa).grown hg0 (Nat.le_refl _) (fun q hq => by cases hq)⟩
            exfalso
            rw [HD0.out] at hl
            have : Maps.has (im gs) (.int .i64 p.1) = true := by
              unfold im Maps.has
              simp only [List.any_map, List.any_eq_true]
              exact ⟨p, hp, by simp [Lit.sameKey]⟩
            rw [this] at hl
            cases hl)
          clear hrg0 hg0 hs0
          rw [← HN9.out] at HST ⊢
          go_loopw [16] (fun v wl => ∃ x, v = .int .i64 x ∧ Hid (∃ (left : Lit → Bool) (cnt : Nat), wl.ranges Try.prog 3 RI hb n9 (i + 1) D0 left cnt ∧ LeastSo most gs left x ∧ Below n9 wa wl)) (fun _ wl => wl.rangeLeft hb n9)
          case atStart => exact ⟨most, rfl, HST⟩
          case round =>
            obtain ⟨lx, rfl, hrel⟩ := hrel
            obtain ⟨left, cnt, hrg, hps, hbw⟩ := hrel.out
            have HREL := Lib.hid (And.intro hps hbw)
            clear hrel HST hps hbw
            go_wp2_with (first
              | (at_next; refine wpList_next_ranges _ rfl _ rfl 3 law_i RI (Value.int .i64) (fun v => v) (fun key kl hk => by obtain ⟨s, e, _⟩ := Maps.keyOf_int_inv Try.underlying3 hk; exact ⟨s, e⟩) (fun v _ _ => ⟨v, rfl⟩) hb n9 (i + 1) D0 left cnt rfl hrg ?_ ?_)
              | fail)
            · intro hc0 hl0
              have HMW : Hid (MS w wr wr.heap.size b hb (i + 1) gs la2) := Lib.hid (by
                have h9 := HM.out.below (by rw [HN9.out] at HREL; exact HREL.out.2)
                exact h9.top h9.n0 (Nat.le_refl _))
              have HLE := Lib.hid (least_turn HMW.out most lx (by
                obtain ⟨⟨a1, a2, a3⟩, _⟩ := HREL.out
                exact ⟨a1, fun p hp => a2 p hp (hl0 _), a3⟩))
              have HMK := Lib.hid (mark_any HMW.out.mks HWF.out)
              have hlk := HMW.out.look HWF.out
              obtain ⟨z9, hz9⟩ : ∃ z, z = (getI an gs).getD 0 := ⟨_, rfl⟩
              obtain ⟨t9, ht9⟩ : ∃ t, t = (getI an gs).isSome := ⟨_, rfl⟩
              rw [← hz9, ← ht9] at HMK hlk
              have hbx := (HREL.out.2).block BX (by rw [HN9.out]; exact HBX.out.lt)
              have hbxx : Box wr BX 70 #[.int .i64 ak, .int .i64 an, .int .i64 am] := hbx.trans HBX.out
              have x1 := hbxx.cell 1
              simp only [List.getElem?_toArray, List.getElem?_cons_zero, List.getElem?_cons_succ] at x1
              clear hrg hl0 hc0 HREL hz9 ht9 HM hbx hbxx
              go_wp2_with fail
              refine HMK.out.mono ?_
              rintro e w8 ⟨rfl, rfl⟩
              go_wp2_with fail
              refine HLE.out.mono ?_
              rintro e w8 ⟨rfl, HM8⟩
              clear HLE HMK hlk
              go_wp2
              go_roundw
              case rel => exact ⟨i + 1, la2, gs, by omega, by omega, by go_num, by go_num, HM8⟩
              case measure => simp [intOf]; omega
            · intro k cv kl ya yb w1x cnt1 hkey hlk hRv hat hrg1 hlt hg1 hs1 hen
              rw [HD0.out] at hat
              obtain ⟨rfl, z, rfl, hmem⟩ := entry_i HO.out hkey hRv hat
              have HST2 : Hid (∃ (left : Lit → Bool) (cnt : Nat), w1x.ranges Try.prog 3 RI hb n9 (i + 1) D0 left cnt ∧ LeastSo most gs left (min lx z) ∧ Below n9 wa w1x) := Lib.hid
                ⟨_, _, hrg1, HREL.out.1.step HO.out hmem, HREL.out.2.grown hg1 (by have := HREL.out.2.size; rw [HN9.out]; exact this) fun q hq => by injection hq with hq; omega⟩
              have HM9 : Hid (w1x.rangeLeft hb n9 < wr.rangeLeft hb n9) := Lib.hid (by rw [hrg.left_eq, hrg1.left_eq]; exact hlt)
              clear hrg hlk hRv hat hrg1 hlt hg1 hs1 hmem hkey HREL
              go_wp2
              go_roundw
              case rel => exact ⟨_, rfl, HST2⟩
              case measure => exact HM9.out
        · obtain ⟨w4, hrun, ⟨h1, h2⟩, h3⟩ := hX.out
          obtain rfl : t0 = true := by rw [HZT.out.2]; exact c1
          have c3 : (am < z0) = False := eq_false (by rw [HZT.out.1]; omega)
          have HB3 : Hid (Box w3 BX 70 #[.int .i64 ak, .int .i64 an, .int .i64 am]) := Lib.hid ((h3 BX (Nat.le_refl _) HBX0.out.lt).trans HBX0.out)
          have HBX : Hid (Box w4 BX 70 #[.int .i64 ak, .int .i64 an, .int .i64 am]) := Lib.hid ((h2 BX (Nat.le_refl _) HBX0.out.lt).trans HBX0.out)
          have y1 := HB3.out.cell 1
          have y2 := HB3.out.cell 2
          simp only [List.getElem?_toArray, List.getElem?_cons_zero, List.getElem?_cons_succ] at y1 y2
          obtain ⟨gs, hgs⟩ : ∃ gs, gs = putI an am fs := ⟨_, rfl⟩
          rw [← hgs] at h1
          obtain ⟨la2, hla2⟩ : ∃ la2, la2 = la := ⟨_, rfl⟩
          subst hla2
          have HM := Lib.hid h1
          clear c1 c2 hX h1 h2 h3 hgs HS HZT HMV HBX0 HB3 x0 x1 x2
          -- tail: world w4, list gs, HM : Hid (MS w w4 b hb (i + 1) gs la2)
          obtain ⟨n9, hn9⟩ : ∃ n9, n9 = w4.heap.size := ⟨_, rfl⟩
          obtain ⟨D0, hD0⟩ : ∃ D0, D0 = im gs := ⟨_, rfl⟩
          have HOWN : Hid (w4.ownsMap Try.prog 3 RI hb (i + 1) D0) := Lib.hid (by rw [hD0]; exact HM.out.hd)
          have HD0 := Lib.hid hD0
          have HO : Hid (One gs) := Lib.hid HM.out.one
          have HN9 := Lib.hid hn9
          clear hD0 hn9
          go_wp2_with (first
            | (at_range; refine wpList_range_own _ rfl _ 68 rfl 3 3 law_i Try.underlying68 RI hb (i + 1) D0 rfl HOWN.out ?_; intro w0 hrg0 hg0 hs0)
            | fail)
          go_frame
          have HST : Hid (∃ (left : Lit → Bool) (cnt : Nat), w0.ranges Try.prog 3 RI hb w4.heap.size (i + 1) D0 left cnt ∧ LeastSo most gs left most ∧ Below w4.heap.size w4 w0) := Lib.hid (by
            refine ⟨_, _, hrg0, ⟨Int.le_refl _, fun p hp hl => ?_, .inl rfl⟩, (Below.refl w4.heap.size w4).grown hg0 (Nat.le_refl _) (fun q hq => by cases hq)⟩
            exfalso
            rw [HD0.out] at hl
            have : Maps.has (im gs) (.int .i64 p.1) = true := by
              unfold im Maps.has
              simp only [List.any_map, List.any_eq_true]
              exact ⟨p, hp, by simp [Lit.sameKey]⟩
            rw [this] at hl
            cases hl)
          clear hrg0 hg0 hs0
          rw [← HN9.out] at HST ⊢
          go_loopw [16] (fun v wl => ∃ x, v = .int .i64 x ∧ Hid (∃ (left : Lit → Bool) (cnt : Nat), wl.ranges Try.prog 3 RI hb n9 (i + 1) D0 left cnt ∧ LeastSo most gs left x ∧ Below n9 w4 wl)) (fun _ wl => wl.rangeLeft hb n9)
          case atStart => exact ⟨most, rfl, HST⟩
          case round =>
            obtain ⟨lx, rfl, hrel⟩ := hrel
            obtain ⟨left, cnt, hrg, hps, hbw⟩ := hrel.out
            have HREL := Lib.hid (And.intro hps hbw)
            clear hrel HST hps hbw
            go_wp2_with (first
              | (at_next; refine wpList_next_ranges _ rfl _ rfl 3 law_i RI (Value.int .i64) (fun v => v) (fun key kl hk => by obtain ⟨s, e, _⟩ := Maps.keyOf_int_inv Try.underlying3 hk; exact ⟨s, e⟩) (fun v _ _ => ⟨v, rfl⟩) hb n9 (i + 1) D0 left cnt rfl hrg ?_ ?_)
              | fail)
            · intro hc0 hl0
              have HMW : Hid (MS w wr wr.heap.size b hb (i + 1) gs la2) := Lib.hid (by
                have h9 := HM.out.below (by rw [HN9.out] at HREL; exact HREL.out.2)
                exact h9.top h9.n0 (Nat.le_refl _))
              have HLE := Lib.hid (least_turn HMW.out most lx (by
                obtain ⟨⟨a1, a2, a3⟩, _⟩ := HREL.out
                exact ⟨a1, fun p hp => a2 p hp (hl0 _), a3⟩))
              have HMK := Lib.hid (mark_any HMW.out.mks HWF.out)
              have hlk := HMW.out.look HWF.out
              obtain ⟨z9, hz9⟩ : ∃ z, z = (getI an gs).getD 0 := ⟨_, rfl⟩
              obtain ⟨t9, ht9⟩ : ∃ t, t = (getI an gs).isSome := ⟨_, rfl⟩
              rw [← hz9, ← ht9] at HMK hlk
              have hbx := (HREL.out.2).block BX (by rw [HN9.out]; exact HBX.out.lt)
              have hbxx : Box wr BX 70 #[.int .i64 ak, .int .i64 an, .int .i64 am] := hbx.trans HBX.out
              have x1 := hbxx.cell 1
              simp only [List.getElem?_toArray, List.getElem?_cons_zero, List.getElem?_cons_succ] at x1
              clear hrg hl0 hc0 HREL hz9 ht9 HM hbx hbxx
              go_wp2_with fail
              refine HMK.out.mono ?_
              rintro e w8 ⟨rfl, rfl⟩
              go_wp2_with fail
              refine HLE.out.mono ?_
              rintro e w8 ⟨rfl, HM8⟩
              clear HLE HMK hlk
              go_wp2
              go_roundw
              case rel => exact ⟨i + 1, la2, gs, by omega, by omega, by go_num, by go_num, HM8⟩
              case measure => simp [intOf]; omega
            · intro k cv kl ya yb w1x cnt1 hkey hlk hRv hat hrg1 hlt hg1 hs1 hen
              rw [HD0.out] at hat
              obtain ⟨rfl, z, rfl, hmem⟩ := entry_i HO.out hkey hRv hat
              have HST2 : Hid (∃ (left : Lit → Bool) (cnt : Nat), w1x.ranges Try.prog 3 RI hb n9 (i + 1) D0 left cnt ∧ LeastSo most gs left (min lx z) ∧ Below n9 w4 w1x) := Lib.hid
                ⟨_, _, hrg1, HREL.out.1.step HO.out hmem, HREL.out.2.grown hg1 (by have := HREL.out.2.size; rw [HN9.out]; exact this) fun q hq => by injection hq with hq; omega⟩
              have HM9 : Hid (w1x.rangeLeft hb n9 < wr.rangeLeft hb n9) := Lib.hid (by rw [hrg.left_eq, hrg1.left_eq]; exact hlt)
              clear hrg hlk hRv hat hrg1 hlt hg1 hs1 hmem hkey HREL
              go_wp2
              go_roundw
              case rel => exact ⟨_, rfl, HST2⟩
              case measure => exact HM9.out
      · by_cases hq3 : q = 3
        · subst hq3
          have HDV := Lib.hid (drop_turn HS.out (by omega) HWF.out)
          rw [← HZT.out.2] at HDV
          go_wp2_with fail
          refine HDV.out.mono ?_
          rintro e w3 ⟨er, rfl, her, hX⟩
          obtain ⟨h3, w4, hrun, h1, h2⟩ := hX.out
          have HB3 : Hid (Box w3 BX 70 #[.int .i64 ak, .int .i64 an, .int .i64 am]) := Lib.hid ((h3 BX (Nat.le_refl _) HBX0.out.lt).trans HBX0.out)
          have HBX : Hid (Box w4 BX 70 #[.int .i64 ak, .int .i64 an, .int .i64 am]) := Lib.hid ((h2 BX (Nat.le_refl _) HBX0.out.lt).trans HBX0.out)
          have y1 := HB3.out.cell 1
          simp only [List.getElem?_toArray, List.getElem?_cons_zero, List.getElem?_cons_succ] at y1
          obtain ⟨gs, hgs⟩ : ∃ gs, gs = delI an fs := ⟨_, rfl⟩
          rw [← hgs] at h1
          obtain ⟨la2, hla2⟩ : ∃ la2, la2 = la := ⟨_, rfl⟩
          subst hla2
          have HM := Lib.hid h1
          clear hX h1 h2 h3 hgs HS HZT HDV HBX0 HB3 x0 x1 x2
          cases t0
          · -- tail: world w4, list gs, HM : Hid (MS w w4 b hb (i + 1) gs la2)
            obtain ⟨n9, hn9⟩ : ∃ n9, n9 = w4.heap.size := ⟨_, rfl⟩
            obtain ⟨D0, hD0⟩ : ∃ D0, D0 = im gs := ⟨_, rfl⟩
            have HOWN : Hid (w4.ownsMap Try.prog 3 RI hb (i + 1) D0) := Lib.hid (by rw [hD0]; exact HM.out.hd)
            have HD0 := Lib.hid hD0
            have HO : Hid (One gs) := Lib.hid HM.out.one
            have HN9 := Lib.hid hn9
            clear hD0 hn9
            go_wp2_with (first
              | (at_range; refine wpList_range_own _ rfl _ 68 rfl 3 3 law_i Try.underlying68 RI hb (i + 1) D0 rfl HOWN.out ?_; intro w0 hrg0 hg0 hs0)
              | fail)
            go_frame
            have HST : Hid (∃ (left : Lit → Bool) (cnt : Nat), w0.ranges Try.prog 3 RI hb w4.heap.size (i + 1) D0 left cnt ∧ LeastSo most gs left most ∧ Below w4.heap.size w4 w0) := Lib.hid (by
              refine ⟨_, _, hrg0, ⟨Int.le_refl _, fun p hp hl => ?_, .inl rfl⟩, (Below.refl w4.heap.size w4).grown hg0 (Nat.le_refl _) (fun q hq => by cases hq)⟩
              exfalso
              rw [HD0.out] at hl
              have : Maps.has (im gs) (.int .i64 p.1) = true := by
                unfold im Maps.has
                simp only [List.any_map, List.any_eq_true]
                exact ⟨p, hp, by simp [Lit.sameKey]⟩
              rw [this] at hl
              cases hl)
            clear hrg0 hg0 hs0
            rw [← HN9.out] at HST ⊢
            go_loopw [16] (fun v wl => ∃ x, v = .int .i64 x ∧ Hid (∃ (left : Lit → Bool) (cnt : Nat), wl.ranges Try.prog 3 RI hb n9 (i + 1) D0 left cnt ∧ LeastSo most gs left x ∧ Below n9 w4 wl)) (fun _ wl => wl.rangeLeft hb n9)
            case atStart => exact ⟨most, rfl, HST⟩
            case round =>
              obtain ⟨lx, rfl, hrel⟩ := hrel
              obtain ⟨left, cnt, hrg, hps, hbw⟩ := hrel.out
              have HREL := Lib.hid (And.intro hps hbw)
              clear hrel HST hps hbw
              go_wp2_with (first
                | (at_next; refine wpList_next_ranges _ rfl _ rfl 3 law_i RI (Value.int .i64) (fun v => v) (fun key kl hk => by obtain ⟨s, e, _⟩ := Maps.keyOf_int_inv Try.underlying3 hk; exact ⟨s, e⟩) (fun v _ _ => ⟨v, rfl⟩) hb n9 (i + 1) D0 left cnt rfl hrg ?_ ?_)
                | fail)
              · intro hc0 hl0
                have HMW : Hid (MS w wr wr.heap.size b hb (i + 1) gs la2) := Lib.hid (by
                  have h9 := HM.out.below (by rw [HN9.out] at HREL; exact HREL.out.2)
                  exact h9.top h9.n0 (Nat.le_refl _))
                have HLE := Lib.hid (least_turn HMW.out most lx (by
                  obtain ⟨⟨a1, a2, a3⟩, _⟩ := HREL.out
                  exact ⟨a1, fun p hp => a2 p hp (hl0 _), a3⟩))
                have HMK := Lib.hid (mark_any HMW.out.mks HWF.out)
                have hlk := HMW.out.look HWF.out
                obtain ⟨z9, hz9⟩ : ∃ z, z = (getI an gs).getD 0 := ⟨_, rfl⟩
                obtain ⟨t9, ht9⟩ : ∃ t, t = (getI an gs).isSome := ⟨_, rfl⟩
                rw [← hz9, ← ht9] at HMK hlk
                have hbx := (HREL.out.2).block BX (by rw [HN9.out]; exact HBX.out.lt)
                have hbxx : Box wr BX 70 #[.int .i64 ak, .int .i64 an, .int .i64 am] := hbx.trans HBX.out
                have x1 := hbxx.cell 1
                simp only [List.getElem?_toArray, List.getElem?_cons_zero, List.getElem?_cons_succ] at x1
                clear hrg hl0 hc0 HREL hz9 ht9 HM hbx hbxx
                go_wp2_with fail
                refine HMK.out.mono ?_
                rintro e w8 ⟨rfl, rfl⟩
                go_wp2_with fail
                refine HLE.out.mono ?_
                rintro e w8 ⟨rfl, HM8⟩
                clear HLE HMK hlk
                go_wp2
                go_roundw
                case rel => exact ⟨i + 1, la2, gs, by omega, by omega, by go_num, by go_num, HM8⟩
                case measure => simp [intOf]; omega
              · intro k cv kl ya yb w1x cnt1 hkey hlk hRv hat hrg1 hlt hg1 hs1 hen
                rw [HD0.out] at hat
                obtain ⟨rfl, z, rfl, hmem⟩ := entry_i HO.out hkey hRv hat
                have HST2 : Hid (∃ (left : Lit → Bool) (cnt : Nat), w1x.ranges Try.prog 3 RI hb n9 (i + 1) D0 left cnt ∧ LeastSo most gs left (min lx z) ∧ Below n9 w4 w1x) := Lib.hid
                  ⟨_, _, hrg1, HREL.out.1.step HO.out hmem, HREL.out.2.grown hg1 (by have := HREL.out.2.size; rw [HN9.out]; exact this) fun q hq => by injection hq with hq; omega⟩
                have HM9 : Hid (w1x.rangeLeft hb n9 < wr.rangeLeft hb n9) := Lib.hid (by rw [hrg.left_eq, hrg1.left_eq]; exact hlt)
                clear hrg hlk hRv hat hrg1 hlt hg1 hs1 hmem hkey HREL
                go_wp2
                go_roundw
                case rel => exact ⟨_, rfl, HST2⟩
                case measure => exact HM9.out
          · -- tail: world w4, list gs, HM : Hid (MS w w4 b hb (i + 1) gs la2)
            obtain ⟨n9, hn9⟩ : ∃ n9, n9 = w4.heap.size := ⟨_, rfl⟩
            obtain ⟨D0, hD0⟩ : ∃ D0, D0 = im gs := ⟨_, rfl⟩
            have HOWN : Hid (w4.ownsMap Try.prog 3 RI hb (i + 1) D0) := Lib.hid (by rw [hD0]; exact HM.out.hd)
            have HD0 := Lib.hid hD0
            have HO : Hid (One gs) := Lib.hid HM.out.one
            have HN9 := Lib.hid hn9
            clear hD0 hn9
            go_wp2_with (first
              | (at_range; refine wpList_range_own _ rfl _ 68 rfl 3 3 law_i Try.underlying68 RI hb (i + 1) D0 rfl HOWN.out ?_; intro w0 hrg0 hg0 hs0)
              | fail)
            go_frame
            have HST : Hid (∃ (left : Lit → Bool) (cnt : Nat), w0.ranges Try.prog 3 RI hb w4.heap.size (i + 1) D0 left cnt ∧ LeastSo most gs left most ∧ Below w4.heap.size w4 w0) := Lib.hid (by
              refine ⟨_, _, hrg0, ⟨Int.le_refl _, fun p hp hl => ?_, .inl rfl⟩, (Below.refl w4.heap.size w4).grown hg0 (Nat.le_refl _) (fun q hq => by cases hq)⟩
              exfalso
              rw [HD0.out] at hl
              have : Maps.has (im gs) (.int .i64 p.1) = true := by
                unfold im Maps.has
                simp only [List.any_map, List.any_eq_true]
                exact ⟨p, hp, by simp [Lit.sameKey]⟩
              rw [this] at hl
              cases hl)
            clear hrg0 hg0 hs0
            rw [← HN9.out] at HST ⊢
            go_loopw [16] (fun v wl => ∃ x, v = .int .i64 x ∧ Hid (∃ (left : Lit → Bool) (cnt : Nat), wl.ranges Try.prog 3 RI hb n9 (i + 1) D0 left cnt ∧ LeastSo most gs left x ∧ Below n9 w4 wl)) (fun _ wl => wl.rangeLeft hb n9)
            case atStart => exact ⟨most, rfl, HST⟩
            case round =>
              obtain ⟨lx, rfl, hrel⟩ := hrel
              obtain ⟨left, cnt, hrg, hps, hbw⟩ := hrel.out
              have HREL := Lib.hid (And.intro hps hbw)
              clear hrel HST hps hbw
              go_wp2_with (first
                | (at_next; refine wpList_next_ranges _ rfl _ rfl 3 law_i RI (Value.int .i64) (fun v => v) (fun key kl hk => by obtain ⟨s, e, _⟩ := Maps.keyOf_int_inv Try.underlying3 hk; exact ⟨s, e⟩) (fun v _ _ => ⟨v, rfl⟩) hb n9 (i + 1) D0 left cnt rfl hrg ?_ ?_)
                | fail)
              · intro hc0 hl0
                have HMW : Hid (MS w wr wr.heap.size b hb (i + 1) gs la2) := Lib.hid (by
                  have h9 := HM.out.below (by rw [HN9.out] at HREL; exact HREL.out.2)
                  exact h9.top h9.n0 (Nat.le_refl _))
                have HLE := Lib.hid (least_turn HMW.out most lx (by
                  obtain ⟨⟨a1, a2, a3⟩, _⟩ := HREL.out
                  exact ⟨a1, fun p hp => a2 p hp (hl0 _), a3⟩))
                have HMK := Lib.hid (mark_any HMW.out.mks HWF.out)
                have hlk := HMW.out.look HWF.out
                obtain ⟨z9, hz9⟩ : ∃ z, z = (getI an gs).getD 0 := ⟨_, rfl⟩
                obtain ⟨t9, ht9⟩ : ∃ t, t = (getI an gs).isSome := ⟨_, rfl⟩
                rw [← hz9, ← ht9] at HMK hlk
                have hbx := (HREL.out.2).block BX (by rw [HN9.out]; exact HBX.out.lt)
                have hbxx : Box wr BX 70 #[.int .i64 ak, .int .i64 an, .int .i64 am] := hbx.trans HBX.out
                have x1 := hbxx.cell 1
                simp only [List.getElem?_toArray, List.getElem?_cons_zero, List.getElem?_cons_succ] at x1
                clear hrg hl0 hc0 HREL hz9 ht9 HM hbx hbxx
                go_wp2_with fail
                refine HMK.out.mono ?_
                rintro e w8 ⟨rfl, rfl⟩
                go_wp2_with fail
                refine HLE.out.mono ?_
                rintro e w8 ⟨rfl, HM8⟩
                clear HLE HMK hlk
                go_wp2
                go_roundw
                case rel => exact ⟨i + 1, la2, gs, by omega, by omega, by go_num, by go_num, HM8⟩
                case measure => simp [intOf]; omega
              · intro k cv kl ya yb w1x cnt1 hkey hlk hRv hat hrg1 hlt hg1 hs1 hen
                rw [HD0.out] at hat
                obtain ⟨rfl, z, rfl, hmem⟩ := entry_i HO.out hkey hRv hat
                have HST2 : Hid (∃ (left : Lit → Bool) (cnt : Nat), w1x.ranges Try.prog 3 RI hb n9 (i + 1) D0 left cnt ∧ LeastSo most gs left (min lx z) ∧ Below n9 w4 w1x) := Lib.hid
                  ⟨_, _, hrg1, HREL.out.1.step HO.out hmem, HREL.out.2.grown hg1 (by have := HREL.out.2.size; rw [HN9.out]; exact this) fun q hq => by injection hq with hq; omega⟩
                have HM9 : Hid (w1x.rangeLeft hb n9 < wr.rangeLeft hb n9) := Lib.hid (by rw [hrg.left_eq, hrg1.left_eq]; exact hlt)
                clear hrg hlk hRv hat hrg1 hlt hg1 hs1 hmem hkey HREL
                go_wp2
                go_roundw
                case rel => exact ⟨_, rfl, HST2⟩
                case measure => exact HM9.out
        · have e2 : ((q : Int) == 2) = false := by rw [beq_eq_false_iff_ne]; omega
          have e3 : ((q : Int) == 3) = false := by rw [beq_eq_false_iff_ne]; omega
          have HHV := Lib.hid (hold_turn HS.out (by omega) am)
          go_wp2_with fail
          refine HHV.out.mono ?_
          rintro e w3 (⟨c1, rfl, hX⟩ | ⟨c1, rfl, hX⟩)
          · obtain ⟨h1, hw3⟩ := hX.out
            subst hw3
            have hlen := fun ty => h1.hd.len (e := 3) Try.underlying68 ty
            obtain ⟨m, hm⟩ : ∃ m, m = fs.length := ⟨_, rfl⟩
            rw [← hm] at hlen c1
            have c1I : (64 : Int) ≤ (m : Int) := by omega
            have HM := Lib.hid h1
            clear hX h1 HS HZT HHV HBX0 x0 x1 x2 hm c1
            go_wp2
            go_roundw
            case rel => exact ⟨i + 1, la, fs, by omega, by omega, by go_num, rfl, HM⟩
            case measure => simp [intOf]; omega
          · obtain ⟨h3, h4, w4, hrun, h1, h2⟩ := hX.out
            have hlen := fun ty => h4.len (e := 3) Try.underlying68 ty
            obtain ⟨m, hm⟩ : ∃ m, m = fs.length := ⟨_, rfl⟩
            rw [← hm] at hlen c1
            have c1I : ((64 : Int) ≤ (m : Int)) = False := eq_false (by omega)
            have HB3 : Hid (Box w3 BX 70 #[.int .i64 ak, .int .i64 an, .int .i64 am]) := Lib.hid ((h3 BX (Nat.le_refl _) HBX0.out.lt).trans HBX0.out)
            have HBX : Hid (Box w4 BX 70 #[.int .i64 ak, .int .i64 an, .int .i64 am]) := Lib.hid ((h2 BX (Nat.le_refl _) HBX0.out.lt).trans HBX0.out)
            have y2 := HB3.out.cell 2
            simp only [List.getElem?_toArray, List.getElem?_cons_zero, List.getElem?_cons_succ] at y2
            obtain ⟨gs, hgs⟩ : ∃ gs, gs = putI ((la : Int) + 1) am fs := ⟨_, rfl⟩
            rw [← hgs] at h1
            have hla3 : la ≤ i := hla
            obtain ⟨la2, hla2⟩ : ∃ la2, la2 = la + 1 := ⟨_, rfl⟩
            rw [← hla2] at h1
            have HLA2 := Lib.hid hla2
            have HM := Lib.hid h1
            clear hX h1 h2 h3 h4 hgs hla2 HS HZT HHV HBX0 HB3 x0 x1 x2 hm c1
            -- tail: world w4, list gs, HM : Hid (MS w w4 b hb (i + 1) gs la2)
            obtain ⟨n9, hn9⟩ : ∃ n9, n9 = w4.heap.size := ⟨_, rfl⟩
            obtain ⟨D0, hD0⟩ : ∃ D0, D0 = im gs := ⟨_, rfl⟩
            have HOWN : Hid (w4.ownsMap Try.prog 3 RI hb (i + 1) D0) := Lib.hid (by rw [hD0]; exact HM.out.hd)
            have HD0 := Lib.hid hD0
            have HO : Hid (One gs) := Lib.hid HM.out.one
            have HN9 := Lib.hid hn9
            clear hD0 hn9
            go_wp2_with (first
              | (at_range; refine wpList_range_own _ rfl _ 68 rfl 3 3 law_i Try.underlying68 RI hb (i + 1) D0 rfl HOWN.out ?_; intro w0 hrg0 hg0 hs0)
              | fail)
            go_frame
            have HST : Hid (∃ (left : Lit → Bool) (cnt : Nat), w0.ranges Try.prog 3 RI hb w4.heap.size (i + 1) D0 left cnt ∧ LeastSo most gs left most ∧ Below w4.heap.size w4 w0) := Lib.hid (by
              refine ⟨_, _, hrg0, ⟨Int.le_refl _, fun p hp hl => ?_, .inl rfl⟩, (Below.refl w4.heap.size w4).grown hg0 (Nat.le_refl _) (fun q hq => by cases hq)⟩
              exfalso
              rw [HD0.out] at hl
              have : Maps.has (im gs) (.int .i64 p.1) = true := by
                unfold im Maps.has
                simp only [List.any_map, List.any_eq_true]
                exact ⟨p, hp, by simp [Lit.sameKey]⟩
              rw [this] at hl
              cases hl)
            clear hrg0 hg0 hs0
            rw [← HN9.out] at HST ⊢
            go_loopw [16] (fun v wl => ∃ x, v = .int .i64 x ∧ Hid (∃ (left : Lit → Bool) (cnt : Nat), wl.ranges Try.prog 3 RI hb n9 (i + 1) D0 left cnt ∧ LeastSo most gs left x ∧ Below n9 w4 wl)) (fun _ wl => wl.rangeLeft hb n9)
            case atStart => exact ⟨most, rfl, HST⟩
            case round =>
              obtain ⟨lx, rfl, hrel⟩ := hrel
              obtain ⟨left, cnt, hrg, hps, hbw⟩ := hrel.out
              have HREL := Lib.hid (And.intro hps hbw)
              clear hrel HST hps hbw
              go_wp2_with (first
                | (at_next; refine wpList_next_ranges _ rfl _ rfl 3 law_i RI (Value.int .i64) (fun v => v) (fun key kl hk => by obtain ⟨s, e, _⟩ := Maps.keyOf_int_inv Try.underlying3 hk; exact ⟨s, e⟩) (fun v _ _ => ⟨v, rfl⟩) hb n9 (i + 1) D0 left cnt rfl hrg ?_ ?_)
                | fail)
              · intro hc0 hl0
                have HMW : Hid (MS w wr wr.heap.size b hb (i + 1) gs la2) := Lib.hid (by
                  have h9 := HM.out.below (by rw [HN9.out] at HREL; exact HREL.out.2)
                  exact h9.top h9.n0 (Nat.le_refl _))
                have HLE := Lib.hid (least_turn HMW.out most lx (by
                  obtain ⟨⟨a1, a2, a3⟩, _⟩ := HREL.out
                  exact ⟨a1, fun p hp => a2 p hp (hl0 _), a3⟩))
                have HMK := Lib.hid (mark_any HMW.out.mks HWF.out)
                have hlk := HMW.out.look HWF.out
                obtain ⟨z9, hz9⟩ : ∃ z, z = (getI an gs).getD 0 := ⟨_, rfl⟩
                obtain ⟨t9, ht9⟩ : ∃ t, t = (getI an gs).isSome := ⟨_, rfl⟩
                rw [← hz9, ← ht9] at HMK hlk
                have hbx := (HREL.out.2).block BX (by rw [HN9.out]; exact HBX.out.lt)
                have hbxx : Box wr BX 70 #[.int .i64 ak, .int .i64 an, .int .i64 am] := hbx.trans HBX.out
                have x1 := hbxx.cell 1
                simp only [List.getElem?_toArray, List.getElem?_cons_zero, List.getElem?_cons_succ] at x1
                clear hrg hl0 hc0 HREL hz9 ht9 HM hbx hbxx
                go_wp2_with fail
                refine HMK.out.mono ?_
                rintro e w8 ⟨rfl, rfl⟩
                go_wp2_with fail
                refine HLE.out.mono ?_
                rintro e w8 ⟨rfl, HM8⟩
                clear HLE HMK hlk
                go_wp2
                go_roundw
                case rel => exact ⟨i + 1, la2, gs, by omega, by have := HLA2.out; omega, by go_num, by have := HLA2.out; go_num, HM8⟩
                case measure => simp [intOf]; omega
              · intro k cv kl ya yb w1x cnt1 hkey hlk hRv hat hrg1 hlt hg1 hs1 hen
                rw [HD0.out] at hat
                obtain ⟨rfl, z, rfl, hmem⟩ := entry_i HO.out hkey hRv hat
                have HST2 : Hid (∃ (left : Lit → Bool) (cnt : Nat), w1x.ranges Try.prog 3 RI hb n9 (i + 1) D0 left cnt ∧ LeastSo most gs left (min lx z) ∧ Below n9 w4 w1x) := Lib.hid
                  ⟨_, _, hrg1, HREL.out.1.step HO.out hmem, HREL.out.2.grown hg1 (by have := HREL.out.2.size; rw [HN9.out]; exact this) fun q hq => by injection hq with hq; omega⟩
                have HM9 : Hid (w1x.rangeLeft hb n9 < wr.rangeLeft hb n9) := Lib.hid (by rw [hrg.left_eq, hrg1.left_eq]; exact hlt)
                clear hrg hlk hRv hat hrg1 hlt hg1 hs1 hmem hkey HREL
                go_wp2
                go_roundw
                case rel => exact ⟨_, rfl, HST2⟩
                case measure => exact HM9.out
    · obtain rfl : i = len := by omega
      have hiI : ((i : Int) < (i : Int)) = False := eq_false (by omega)
      have HF := Lib.hid hst.out.low
      clear hst
      go_wp2_with fail
      refine (hold_nil _ _).mono ?_
      rintro e w3 ⟨rfl, rfl⟩
      go_wp2_with fail
      refine (move_nil _ _ _).mono ?_
      rintro e w3 ⟨rfl, rfl⟩
      go_wp2_with fail
      refine (drop_none _ _).mono ?_
      rintro e w3 ⟨rfl, rfl⟩
      go_wp2_with fail
      refine (least_nil _ _).mono ?_
      rintro e w3 ⟨rfl, rfl⟩
      go_wp2
      first | exact ⟨rfl, HF.out⟩ | (go_ret; exact ⟨rfl, HF.out⟩)


theorem walk {w : World} (a : Option Addr) (len cap : Nat) (hW : ∃ vs, ActsCame w a len cap vs) (most : Int) (wm : (Lit.int .i64 most).wf = true) :
    Calls Try.prog 9 #[.slice a len cap, .int .i64 most] w fun e W' => e = .returned (.bool true) ∧ Below w.heap.size w W' := by
  by_cases h : 200 < len
  · exact walk_out a len cap most h
  · obtain ⟨vs, hc⟩ := hW
    exact walk_main a len cap vs hc (by omega) most

end Go.Proofs.Ytookplnegfheeaa.watchMarks
