/-
  watch.Marks: the contracts of New, Mark, Move, Drop, Hold, Least.
-/
import Derived.Test.YtookplnegfheeaaIMap
import Derived.Test.YtookplnegfheeaaTM1
import Derived.Carry
import Derived.Laws.Cover3
import Derived.Laws.IdiomRangeMap
import Derived.Maps.RangeWalk
import Derived.Deep.RegionLaw
namespace Go.Proofs.Ytookplnegfheeaa.wM
open Go.RowKit Go.Maps Go.MapKept Go.WideMaps Go.ChangeMaps Go.Proofs.Ytookplnegfheeaa.iM Go.Proofs.Ytookplnegfheeaa.tC

set_option linter.unusedVariables false
set_option linter.unusedSimpArgs false

theorem law_i : Keyed Try.prog 3 := Maps.int_keyed Try.underlying3
theorem zero_i (w : World) : (zeroValue 3).run Try.prog w = .ok (.int .i64 0) w := by kernel_rfl
theorem key_i {x : Int} (hx : (Lit.int .i64 x).wf = true) : keyOf Try.prog 3 (.int .i64 x) = some (.int .i64 x) := Maps.keyOf_int_mk (P := Try.prog) Try.underlying3 hx
abbrev wfI (x : Int) : Prop := (Lit.int .i64 x).wf = true
theorem wf_of {x : Int} (h1 : -9223372036854775808 ≤ x) (h2 : x ≤ 9223372036854775807) : wfI x := by
  have e1 : IntKind.i64.min = -9223372036854775808 := rfl
  have e2 : IntKind.i64.max = 9223372036854775807 := rfl
  unfold wfI Lit.wf
  simp
  omega

/-- a map from ints to ints, perhaps none -/
def MvAt (P : Nat → Prop) (W : World) (n : Nat) (fs : IL) (mo : Option Nat) : Prop := One fs ∧ ((mo = none ∧ fs = []) ∨ ∃ mb, mo = some mb ∧ P mb ∧ IAt 3 W mb n fs)
theorem MvAt.look {P : Nat → Prop} {W : World} {n : Nat} {fs : IL} {mo : Option Nat} (h : MvAt P W n fs mo) {x : Int} (hx : wfI x) (c : Bool) : (Instr.lookup 68 (.map mo) (.int .i64 x) c).run Try.prog W = .ok (if c then .tuple #[.int .i64 ((getI x fs).getD 0), .bool (getI x fs).isSome] else .int .i64 ((getI x fs).getD 0)) W := by
  rcases h.2 with ⟨rfl, rfl⟩ | ⟨mb, rfl, _, h⟩
  · have := Maps.look_nil c law_i Try.underlying68 (zero_i W) (key_i hx)
    rw [this]; rfl
  · exact h.look (e := 3) Try.underlying3 Try.underlying68 (zero_i W) hx c
theorem MvAt.len {P : Nat → Prop} {W : World} {n : Nat} {fs : IL} {mo : Option Nat} (h : MvAt P W n fs mo) (ty : TypeId) : (Builtin.len_ #[68] ty #[.map mo]).run Try.prog W = .ok (.int .i64 (fs.length : Int)) W := by
  rcases h.2 with ⟨rfl, rfl⟩ | ⟨mb, rfl, _, h⟩
  · have := Maps.len_nil (P := Try.prog) (w := W) Try.underlying68 ty
    rw [this]; rfl
  · exact h.len (e := 3) Try.underlying68 ty
theorem MvAt.keep {P P' : Nat → Prop} {W W' : World} {n : Nat} {fs : IL} {mo : Option Nat} (h : MvAt P W n fs mo) (hk : ∀ q, P q → q < W.heap.size → W'.heap[q]? = W.heap[q]? ∧ P' q) : MvAt P' W' n fs mo := by
  refine ⟨h.1, h.2.imp id ?_⟩
  rintro ⟨mb, e, h1, h2⟩
  exact ⟨mb, e, (hk mb h1 h2.lt).2, h2.kept (hk mb h1 h2.lt).1⟩

/-- marks in memory -/
def MkAt (P : Nat → Prop) (W : World) (b n : Nat) (fs : IL) (last : Int) : Prop := ∃ mo, Box W b 124 #[.map mo, .int .i64 last] ∧ P b ∧ MvAt P W n fs mo
theorem MkAt.keep {P P' : Nat → Prop} {W W' : World} {b n : Nat} {fs : IL} {last : Int} (h : MkAt P W b n fs last) (hk : ∀ q, P q → q < W.heap.size → W'.heap[q]? = W.heap[q]? ∧ P' q) : MkAt P' W' b n fs last := by
  obtain ⟨mo, h1, h2, h3⟩ := h
  exact ⟨mo, (hk b h2 h1.lt).1.trans h1, (hk b h2 h1.lt).2, h3.keep hk⟩
theorem MkAt.below {P : Nat → Prop} {W W' : World} {b n : Nat} {fs : IL} {last : Int} (h : MkAt P W b n fs last) (hb : Below W.heap.size W W') : MkAt P W' b n fs last := h.keep fun q hq hlt => ⟨hb.block q hlt, hq⟩

theorem mk_new (W : World) : Calls Try.prog 40 #[] W fun e W' => ∃ b, e = .returned (.pointer (some ⟨b, 0, none⟩)) ∧ Hid (b = W.heap.size ∧ MkAt (fun q => W.heap.size ≤ q ∧ q < W'.heap.size) W' b 0 [] 0 ∧ Below W.heap.size W W') := by
  have HF : Hid (MkAt (fun q => W.heap.size ≤ q ∧ q < (W.alloc (.cells #[.map none, .int .i64 0] 124)).heap.size) (W.alloc (.cells #[.map none, .int .i64 0] 124)) W.heap.size 0 [] 0 ∧ Below W.heap.size W (W.alloc (.cells #[.map none, .int .i64 0] 124))) := Lib.hid
    ⟨⟨none, Box.new W 124 _, ⟨Nat.le_refl _, by simp⟩, List.nodup_nil, .inl ⟨rfl, rfl⟩⟩, (Below.refl _ _).alloc (Nat.le_refl _) _⟩
  go_enter Try.func40, Try.ntmps40
  go_wp2
  go_ret
  exact ⟨_, rfl, Lib.hid ⟨rfl, HF.out⟩⟩

theorem mark_any {P : Nat → Prop} {W : World} {b n : Nat} {fs : IL} {last : Int} (h : MkAt P W b n fs last) {x : Int} (hx : wfI x) :
    Calls Try.prog 44 #[.pointer (some ⟨b, 0, none⟩), .int .i64 x] W fun e W' => e = .returned (.tuple #[.int .i64 ((getI x fs).getD 0), .bool (getI x fs).isSome]) ∧ W = W' := by
  obtain ⟨mo, h1, h2, h3⟩ := h
  have c0 := h1.cell 0
  simp only [List.getElem?_toArray, List.getElem?_cons_zero] at c0
  have hl := h3.look hx true
  simp only [if_true] at hl
  obtain ⟨z, hz⟩ : ∃ z, z = (getI x fs).getD 0 := ⟨_, rfl⟩
  obtain ⟨t, ht⟩ : ∃ t, t = (getI x fs).isSome := ⟨_, rfl⟩
  rw [← hz, ← ht] at hl ⊢
  clear hz ht h1 h2 h3
  go_enter Try.func44, Try.ntmps44
  go_wp2
  refine bodyPost_ret (v := .tuple #[.int .i64 z, .bool t]) (by simp [results, Try.results44, go_sem]) rfl ⟨rfl, rfl⟩
theorem mark_nil (x : Int) (W : World) : Calls Try.prog 44 #[.pointer none, .int .i64 x] W fun e W' => e = .returned (.tuple #[.int .i64 0, .bool false]) ∧ W = W' := by
  go_enter Try.func44, Try.ntmps44
  go_wp2
  refine bodyPost_ret (v := .tuple #[.int .i64 0, .bool false]) (by simp [results, Try.results44, go_sem]) rfl ⟨rfl, rfl⟩
theorem move_nil (x y : Int) (W : World) : Calls Try.prog 41 #[.pointer none, .int .i64 x, .int .i64 y] W fun e W' => e = .returned (.int .i64 5) ∧ W = W' := by
  go_enter Try.func41, Try.ntmps41
  go_wp2_with fail
  refine (mark_nil _ _).mono ?_
  rintro e w1 ⟨rfl, rfl⟩
  go_wp2
  go_ret
  exact ⟨rfl, rfl⟩
theorem drop_none (x : Int) (W : World) : Calls Try.prog 42 #[.pointer none, .int .i64 x] W fun e W' => e = .returned (.int .i64 5) ∧ W = W' := by
  go_enter Try.func42, Try.ntmps42
  go_wp2_with fail
  refine (mark_nil _ _).mono ?_
  rintro e w1 ⟨rfl, rfl⟩
  go_wp2
  go_ret
  exact ⟨rfl, rfl⟩
theorem hold_nil (x : Int) (W : World) : Calls Try.prog 43 #[.pointer none, .int .i64 x] W fun e W' => e = .returned (.tuple #[.int .i64 0, .int .i64 1]) ∧ W = W' := by
  go_enter Try.func43, Try.ntmps43
  go_wp2
  refine bodyPost_ret (v := .tuple #[.int .i64 0, .int .i64 1]) (by simp [results, Try.results43, go_sem]) rfl ⟨rfl, rfl⟩
theorem least_nil (x : Int) (W : World) : Calls Try.prog 45 #[.pointer none, .int .i64 x] W fun e W' => e = .returned (.int .i64 x) ∧ W = W' := by
  go_enter Try.func45, Try.ntmps45
  go_wp2
  go_ret
  exact ⟨rfl, rfl⟩

/-- a map of ints, stored to -/
theorem MvAt.put {P : Nat → Prop} {W : World} {n : Nat} {fs : IL} {mb : Nat} (h : MvAt P W n fs (some mb)) (hn : n < 1000000) {x : Int} (hx : wfI x) (v : Int) :
    ∃ w', (Instr.mapUpdate 68 (.map (some mb)) (.int .i64 x) (.int .i64 v)).run Try.prog W = .ok () w' ∧ MvAt P w' (n + 1) (putI x v fs) (some mb) ∧ W.grownBy w' (some mb) ∧ P mb ∧ mb < W.heap.size := by
  rcases h.2 with ⟨e, _⟩ | ⟨b, e, h1, h2⟩
  · cases e
  · injection e with e
    subst e
    obtain ⟨w', k1, k2, k3⟩ := h2.store (e := 3) Try.underlying3 Try.underlying68 hn hx v
    exact ⟨w', k1, ⟨one_put h.1, .inr ⟨_, rfl, h1, k2⟩⟩, k3, h1, h2.lt⟩
theorem some_map {P : Nat → Prop} {W : World} {n : Nat} {fs : IL} {mo : Option Nat} (h : MvAt P W n fs mo) {x : Int} (hx : (getI x fs).isSome = true) : ∃ mb, mo = some mb := by
  rcases h.2 with ⟨_, rfl⟩ | ⟨mb, e, _⟩
  · cases hx
  · exact ⟨mb, e⟩
theorem ext_grown {P : Nat → Prop} {W W' : World} {mb : Nat} (hg : W.grownBy W' (some mb)) (hP : P mb) : Ext P W W' := ⟨hg.os, hg.tape, hg.output, hg.size, fun q hq hn => hg.block q hq fun e => by
  injection e with e
  subst e
  exact hn hP⟩

/-- what Move answers -/
def MoveP (P : Nat → Prop) (W : World) (b n : Nat) (fs : IL) (last x y : Int) (e : Ending) (W' : World) : Prop :=
  ((getI x fs).isSome = false ∧ e = .returned (.int .i64 5) ∧ W = W') ∨ ((getI x fs).isSome = true ∧ y < (getI x fs).getD 0 ∧ e = .returned (.int .i64 1) ∧ W = W') ∨ ((getI x fs).isSome = true ∧ ¬ y < (getI x fs).getD 0 ∧ e = .returned (.int .i64 0) ∧ MkAt P W' b (n + 1) (putI x y fs) last ∧ Ext P W W')
/-- what Drop answers -/
def MdropP (P : Nat → Prop) (W : World) (b n : Nat) (fs : IL) (last x : Int) (e : Ending) (W' : World) : Prop :=
  ((getI x fs).isSome = false ∧ e = .returned (.int .i64 5) ∧ W = W') ∨ ((getI x fs).isSome = true ∧ e = .returned (.int .i64 0) ∧ MkAt P W' b n (delI x fs) last ∧ Ext P W W')

theorem move_any {P : Nat → Prop} {W : World} {b n : Nat} {fs : IL} {last : Int} (h : MkAt P W b n fs last) (hn : n < 1000000) {x : Int} (hx : wfI x) (y : Int) :
    Calls Try.prog 41 #[.pointer (some ⟨b, 0, none⟩), .int .i64 x, .int .i64 y] W (MoveP P W b n fs last x y) := by
  have HM := Lib.hid (mark_any h hx)
  obtain ⟨Q, hQ⟩ : ∃ Q, Q = MoveP P W b n fs last x y := ⟨_, rfl⟩
  rw [← hQ]
  cases ht : (getI x fs).isSome with
  | false =>
    rw [ht] at HM
    have HF : Hid (Q (.returned (.int .i64 5)) W) := Lib.hid (by rw [hQ]; exact .inl ⟨ht, rfl, rfl⟩)
    clear hQ ht
    go_enter Try.func41, Try.ntmps41
    go_wp2_with fail
    refine HM.out.mono ?_
    rintro e w1 ⟨rfl, rfl⟩
    go_wp2
    first | exact HF.out | (go_ret; exact HF.out)
  | true =>
    rw [ht] at HM
    by_cases hy : y < (getI x fs).getD 0
    · have HF : Hid (Q (.returned (.int .i64 1)) W) := Lib.hid (by rw [hQ]; exact .inr (.inl ⟨ht, hy, rfl, rfl⟩))
      obtain ⟨z, hz⟩ : ∃ z, z = (getI x fs).getD 0 := ⟨_, rfl⟩
      rw [← hz] at HM hy
      clear hz hQ ht
      go_enter Try.func41, Try.ntmps41
      go_wp2_with fail
      refine HM.out.mono ?_
      rintro e w1 ⟨rfl, rfl⟩
      go_wp2
      first | exact HF.out | (go_ret; exact HF.out)
    · obtain ⟨mo, h1, h2, h3⟩ := h
      obtain ⟨mb, rfl⟩ := some_map h3 ht
      obtain ⟨w', hrun, k1, k2, k3, k4⟩ := h3.put hn hx y
      have c0 := h1.cell 0
      simp only [List.getElem?_toArray, List.getElem?_cons_zero] at c0
      have HF : Hid (Q (.returned (.int .i64 0)) w') := Lib.hid (by rw [hQ]; exact .inr (.inr ⟨ht, hy, rfl, ⟨some mb, (k2.block b h1.lt fun e => by
        injection e with e
        subst e
        obtain ⟨es, cl, hb, _⟩ := (show ∃ es cl, W.heap[b]? = some (.map es cl) ∧ True by
          rcases h3.2 with ⟨e, _⟩ | ⟨m2, e, _, h5⟩
          · cases e
          · injection e with e
            subst e
            obtain ⟨es, cl, hb, _⟩ := h5
            exact ⟨es, cl, hb, trivial⟩)
        rw [show W.heap[b]? = _ from h1] at hb
        cases hb).trans h1, h2, k1⟩, ext_grown k2 k3⟩))
      obtain ⟨z, hz⟩ : ∃ z, z = (getI x fs).getD 0 := ⟨_, rfl⟩
      rw [← hz] at HM hy
      clear hz h1 h2 h3 k1 k2 k3 k4 hQ ht
      have hyz : (y < z) = False := eq_false hy
      clear hy
      go_enter Try.func41, Try.ntmps41
      go_wp2_with fail
      refine HM.out.mono ?_
      rintro e w1 ⟨rfl, rfl⟩
      go_wp2
      first | exact HF.out | (go_ret; exact HF.out)

theorem mdrop_any {P : Nat → Prop} {W : World} {b n : Nat} {fs : IL} {last : Int} (h : MkAt P W b n fs last) {x : Int} (hx : wfI x) :
    Calls Try.prog 42 #[.pointer (some ⟨b, 0, none⟩), .int .i64 x] W (MdropP P W b n fs last x) := by
  have HM := Lib.hid (mark_any h hx)
  obtain ⟨Q, hQ⟩ : ∃ Q, Q = MdropP P W b n fs last x := ⟨_, rfl⟩
  rw [← hQ]
  obtain ⟨z, hz⟩ : ∃ z, z = (getI x fs).getD 0 := ⟨_, rfl⟩
  rw [← hz] at HM
  clear hz
  cases ht : (getI x fs).isSome with
  | false =>
    rw [ht] at HM
    have HF : Hid (Q (.returned (.int .i64 5)) W) := Lib.hid (by rw [hQ]; exact .inl ⟨ht, rfl, rfl⟩)
    clear hQ ht
    go_enter Try.func42, Try.ntmps42
    go_wp2_with fail
    refine HM.out.mono ?_
    rintro e w1 ⟨rfl, rfl⟩
    go_wp2
    first | exact HF.out | (go_ret; exact HF.out)
  | true =>
    rw [ht] at HM
    obtain ⟨mo, h1, h2, h3⟩ := h
    obtain ⟨mb, rfl⟩ := some_map h3 ht
    obtain ⟨h0, h4⟩ := h3
    rcases h4 with ⟨e, _⟩ | ⟨m2, e, h5, h6⟩
    · cases e
    injection e with e
    subst e
    obtain ⟨w', hrun, k1, k2⟩ := h6.delete (e := 3) Try.underlying3 Try.underlying68 hx 0
    have c0 := h1.cell 0
    simp only [List.getElem?_toArray, List.getElem?_cons_zero] at c0
    have HF : Hid (Q (.returned (.int .i64 0)) w') := Lib.hid (by rw [hQ]; exact .inr ⟨ht, rfl, ⟨some mb, (k2.block b h1.lt fun e => by
      injection e with e
      subst e
      obtain ⟨es, cl, hb, _⟩ := h6
      rw [show W.heap[b]? = _ from h1] at hb
      cases hb).trans h1, h2, one_del h0, .inr ⟨_, rfl, h5, k1⟩⟩, ext_grown k2 h5⟩)
    clear h0 h1 h2 h5 h6 k1 k2 hQ ht
    go_enter Try.func42, Try.ntmps42
    go_wp2_with fail
    refine HM.out.mono ?_
    rintro e w1 ⟨rfl, rfl⟩
    go_wp2
    first | exact HF.out | (go_ret; exact HF.out)

/-- what Hold answers -/
def HoldP (P : Nat → Prop) (W : World) (b n : Nat) (fs : IL) (last y : Int) (e : Ending) (W' : World) : Prop :=
  (64 ≤ fs.length ∧ e = .returned (.tuple #[.int .i64 0, .int .i64 4]) ∧ W = W') ∨ (fs.length < 64 ∧ e = .returned (.tuple #[.int .i64 (last + 1), .int .i64 0]) ∧ MkAt (Nu P W.heap.size) W' b (n + 1) (putI (last + 1) y fs) (last + 1) ∧ Ext P W W')
theorem eq_nil (mb : Option Nat) (W : World) : (binOp .eql 68 (.map mb) (.map none)).run Try.prog W = .ok (.bool mb.isNone) W := by
  have h := run_equal_map_nil (P := Try.prog) W 68 _ _ mb Try.underlying68
  simp [binOp, h, Result.andThen]

set_option maxHeartbeats 2000000 in
theorem hold_any {P : Nat → Prop} {W : World} {b n : Nat} {fs : IL} {last : Int} (h : MkAt P W b n fs last) (hn : n < 1000000) (hl0 : 0 ≤ last) (hl1 : last ≤ 1000000) (y : Int) :
    Calls Try.prog 43 #[.pointer (some ⟨b, 0, none⟩), .int .i64 y] W (HoldP P W b n fs last y) := by
  obtain ⟨mo, h1, h2, h3⟩ := h
  have hlen := fun ty => h3.len ty
  have c0 := h1.cell 0
  have c1 := h1.cell 1
  have f0 := h1.free 0
  have f1 := h1.free 1
  simp only [List.getElem?_toArray, List.getElem?_cons_zero, List.getElem?_cons_succ] at c0 c1
  obtain ⟨Q, hQ⟩ : ∃ Q, Q = HoldP P W b n fs last y := ⟨_, rfl⟩
  rw [← hQ]
  obtain ⟨m, hm⟩ : ∃ m, m = fs.length := ⟨_, rfl⟩
  rw [← hm] at hlen
  by_cases h64 : 64 ≤ m
  · have HF : Hid (Q (.returned (.tuple #[.int .i64 0, .int .i64 4])) W) := Lib.hid (by rw [hQ]; exact .inl ⟨by omega, rfl, rfl⟩)
    have h64I : (64 : Int) ≤ (m : Int) := by omega
    clear hQ hm h1 h2 h3 h64
    go_enter Try.func43, Try.ntmps43
    go_wp2
    first | exact HF.out | (refine bodyPost_ret (v := .tuple #[.int .i64 0, .int .i64 4]) (by simp [results, Try.results43, go_sem]) rfl HF.out)
  · have h64I : ((64 : Int) ≤ (m : Int)) = False := eq_false (by omega)
    have hblt := h1.lt
    have heq := eq_nil mo
    have hmm := @run_makeMap Try.prog
    have hw1 : IntKind.i64.wrap (last + 1) = last + 1 := by rw [IntKind.wrap_i64]; omega
    have hwf : wfI (last + 1) := wf_of (by omega) (by omega)
    rcases h3 with ⟨h0, ⟨rfl, rfl⟩ | ⟨mb, rfl, h4, h5⟩⟩
    · -- the first mark of all
      have hb1 : Box (W.setCell ⟨b, 0, none⟩ (.map (some W.heap.size))) b 124 #[.map (some W.heap.size), .int .i64 last] := by
        have := h1.setSame 0 (.map (some W.heap.size))
        simpa using this
      have hb2 : Box ((W.setCell ⟨b, 0, none⟩ (.map (some W.heap.size))).setCell ⟨b, 1, none⟩ (.int .i64 (last + 1))) b 124 #[.map (some W.heap.size), .int .i64 (last + 1)] := by
        have := hb1.setSame 1 (.int .i64 (last + 1))
        simpa using this
      obtain ⟨w2, hw2⟩ : ∃ w2, w2 = ((W.setCell ⟨b, 0, none⟩ (.map (some W.heap.size))).setCell ⟨b, 1, none⟩ (.int .i64 (last + 1))) := ⟨_, rfl⟩
      have hz2 : w2.heap.size = W.heap.size := by rw [hw2]; simp [World.setCell]
      have hb2b := hb2.alloc (.map #[] 0)
      rw [← hw2] at hb2 hb2b
      have hm2 : IAt 3 (w2.alloc (.map #[] 0)) W.heap.size 0 [] := by
        have := IAt.made 3 w2
        rwa [hz2] at this
      obtain ⟨w', hrun, k1, k2⟩ := IAt.store (w := (w2.alloc (.map #[] 0)).drew) (e := 3) hm2 Try.underlying3 Try.underlying68 (by omega) hwf y
      have hb3 : Box w' b 124 #[.map (some W.heap.size), .int .i64 (last + 1)] := (k2.block b hb2b.lt (fun e => by injection e with e; omega)).trans hb2b
      have d0 := hb1.cell 0
      have d1 := hb1.cell 1
      have d2 := hb1.free 1
      have e0 := hb2.cell 0
      have e1 := hb2.cell 1
      have g1 := hb3.cell 1
      simp only [List.getElem?_toArray, List.getElem?_cons_zero, List.getElem?_cons_succ, List.setIfInBounds_toArray, List.set_cons_zero, List.set_cons_succ] at d0 d1 e0 e1 g1
      have HF : Hid (Q (.returned (.tuple #[.int .i64 (last + 1), .int .i64 0])) w') := Lib.hid (by
        rw [hQ]
        refine .inr ⟨by omega, rfl, ⟨some W.heap.size, hb3, .inl h2, one_put h0, .inr ⟨_, rfl, .inr (Nat.le_refl _), k1.mono (by omega)⟩⟩, ?_⟩
        refine ⟨k2.os.trans (by rw [hw2]; rfl), k2.tape.trans (by rw [hw2]; rfl), k2.output.trans (by rw [hw2]; rfl), ?_, fun q hq hn => ?_⟩
        · have := k2.size
          have h9 : (w2.alloc (.map #[] 0)).drew.heap.size = w2.heap.size + 1 := by show (w2.alloc (.map #[] 0)).heap.size = _; simp
          omega
        · have hqb : q ≠ b := fun e => hn (by rw [e]; exact h2)
          have h9 : (w2.alloc (.map #[] 0)).drew.heap.size = w2.heap.size + 1 := by show (w2.alloc (.map #[] 0)).heap.size = _; simp
          refine (k2.block q (by omega) (fun e => by injection e with e; omega)).trans ?_
          refine (Below.heap_alloc w2 _ q (by omega)).trans ?_
          rw [hw2, Below.heap_setCell _ ⟨b, 1, none⟩ _ _ hqb, Below.heap_setCell _ ⟨b, 0, none⟩ _ _ hqb])
      subst hw2
      clear hz2 hb2b
      clear hQ hm h0 h1 h2 h64 hb1 hb2 hb3 hm2 k1 k2 hwf
      go_enter Try.func43, Try.ntmps43
      go_wp2_with fail
      go_region_law (fail)
      all_goals
        go_wp2
        first | exact HF.out | (refine bodyPost_ret (v := .tuple #[.int .i64 (last + 1), .int .i64 0]) (by simp [results, Try.results43, go_sem]) rfl HF.out)
    · have hne : mb ≠ b := fun e => by
        subst e
        obtain ⟨es, cl, hb, _⟩ := h5
        rw [show W.heap[mb]? = _ from h1] at hb
        cases hb
      have hb2 : Box (W.setCell ⟨b, 1, none⟩ (.int .i64 (last + 1))) b 124 #[.map (some mb), .int .i64 (last + 1)] := by
        have := h1.setSame 1 (.int .i64 (last + 1))
        simpa using this
      have hm2 : IAt 3 (W.setCell ⟨b, 1, none⟩ (.int .i64 (last + 1))) mb n fs := h5.kept (Below.heap_setCell _ ⟨b, 1, none⟩ _ _ hne)
      obtain ⟨w', hrun, k1, k2⟩ := IAt.store (w := (W.setCell ⟨b, 1, none⟩ (.int .i64 (last + 1))).drew) (e := 3) hm2 Try.underlying3 Try.underlying68 (by omega) hwf y
      have hb3 : Box w' b 124 #[.map (some mb), .int .i64 (last + 1)] := (k2.block b hb2.lt (fun e => by injection e with e; exact hne e.symm)).trans hb2
      have e0 := hb2.cell 0
      have e1 := hb2.cell 1
      have g1 := hb3.cell 1
      simp only [List.getElem?_toArray, List.getElem?_cons_zero, List.getElem?_cons_succ, List.setIfInBounds_toArray, List.set_cons_zero, List.set_cons_succ] at e0 e1 g1
      have HF : Hid (Q (.returned (.tuple #[.int .i64 (last + 1), .int .i64 0])) w') := Lib.hid (by
        rw [hQ]
        refine .inr ⟨by omega, rfl, ⟨some mb, hb3, .inl h2, one_put h0, .inr ⟨_, rfl, .inl h4, k1⟩⟩, ?_⟩
        refine ⟨k2.os, k2.tape, k2.output, ?_, fun q hq hn => ?_⟩
        · have := k2.size
          simpa [World.setCell] using this
        · have hqb : q ≠ b := fun e => hn (by rw [e]; exact h2)
          exact (k2.block q (by simpa [World.setCell] using hq) (fun e => by injection e with e; subst e; exact hn h4)).trans (Below.heap_setCell _ ⟨b, 1, none⟩ _ _ hqb))
      clear hQ hm h0 h1 h2 h4 h5 h64 hb2 hb3 hm2 k1 k2 hwf hne
      go_enter Try.func43, Try.ntmps43
      go_wp2_with fail
      go_region_law (fail)
      all_goals
        go_wp2
        first | exact HF.out | (refine bodyPost_ret (v := .tuple #[.int .i64 (last + 1), .int .i64 0]) (by simp [results, Try.results43, go_sem]) rfl HF.out)

/-- an entry that has come is one of the marks -/
theorem entry_i {fs : IL} (ho : One fs) {x : Int} {cv : Value} {kl : Lit} {y : DataW Value × List MemPlace} (hkey : keyOf Try.prog 3 (.int .i64 x) = some kl) (hR : RI cv = some y) (hat : ∀ zd, (im fs).atKey kl zd = y.1) :
    kl = .int .i64 x ∧ ∃ z, cv = .int .i64 z ∧ (x, z) ∈ fs := by
  obtain ⟨s, e1, rfl, hs⟩ := Maps.keyOf_int_inv Try.underlying3 hkey
  obtain rfl : x = s := by injection e1
  obtain rfl : (.held cv, []) = y := Option.some.inj hR
  refine ⟨rfl, ?_⟩
  have h1 := hat .nil
  rw [im_at] at h1
  cases hg : getI x fs with
  | none => rw [hg] at h1; cases h1
  | some z =>
    rw [hg] at h1
    exact ⟨z, (DataW.held.inj h1).symm, (get_mem ho).1 hg⟩

/-- what Least answers -/
def LeastP (W : World) (most : Int) (fs : IL) (e : Ending) (W' : World) : Prop := ∃ x, e = .returned (.int .i64 x) ∧ Hid (IsLeast most fs x ∧ Below W.heap.size W W')

set_option maxHeartbeats 2000000 in
theorem least_any {P : Nat → Prop} {W : World} {b n : Nat} {fs : IL} {last : Int} (h : MkAt P W b n fs last) (most : Int) :
    Calls Try.prog 45 #[.pointer (some ⟨b, 0, none⟩), .int .i64 most] W (LeastP W most fs) := by
  obtain ⟨mo, h1, h2, h3⟩ := h
  have c0 := h1.cell 0
  simp only [List.getElem?_toArray, List.getElem?_cons_zero] at c0
  obtain ⟨Q, hQ⟩ : ∃ Q, Q = LeastP W most fs := ⟨_, rfl⟩
  rw [← hQ]
  rcases h3 with ⟨h0, ⟨rfl, rfl⟩ | ⟨mb, rfl, h4, h5⟩⟩
  · have hrr := run_range_nilMap (P := Try.prog) W 68 _ _ Try.underlying68
    have hnx := fun ty => run_next_nilMap (P := Try.prog) W ty 0 0 #[]
    have HF : Hid (Q (.returned (.int .i64 most)) (W.alloc (.mapIter none 0 #[] 0))) := Lib.hid (by
      rw [hQ]
      exact ⟨most, rfl, Lib.hid ⟨⟨Int.le_refl _, fun p hp => by simp at hp, .inl rfl⟩, (Below.refl _ W).alloc (Nat.le_refl _) _⟩⟩)
    clear h0 h1 h2 hQ
    go_enter Try.func45, Try.ntmps45
    go_wp2
    go_loopw [1] (fun v wr => v = .int .i64 most ∧ wr = W.alloc (.mapIter none 0 #[] 0)) (fun _ _ => 0)
    case atStart => exact ⟨rfl, rfl⟩
    case round =>
      obtain ⟨rfl, rfl⟩ := hrel
      go_wp2
      first | exact HF.out | (go_ret; exact HF.out)
  · have HO := Lib.hid h0
    have hb := h5.lt
    obtain ⟨D0, hD0⟩ : ∃ D0, D0 = im fs := ⟨_, rfl⟩
    have HOWN : Hid (W.ownsMap Try.prog 3 RI mb n D0) := Lib.hid (by rw [hD0]; exact h5)
    have HD0 := Lib.hid hD0
    have HQ := Lib.hid hQ
    clear h0 h1 h2 h4 h5 hD0 hQ
    go_enter Try.func45, Try.ntmps45
    go_wp2_with (first
      | (at_range; refine wpList_range_own _ rfl _ 68 rfl 3 3 law_i Try.underlying68 RI mb n D0 rfl HOWN.out ?_; intro w0 hrg0 hg0 hs0)
      | fail)
    go_frame
    have HST : Hid (∃ (left : Lit → Bool) (cnt : Nat), w0.ranges Try.prog 3 RI mb W.heap.size n D0 left cnt ∧ LeastSo most fs left most ∧ Below W.heap.size W w0) := Lib.hid (by
      refine ⟨_, _, hrg0, ⟨Int.le_refl _, fun p hp hl => ?_, .inl rfl⟩, (Below.refl W.heap.size W).grown hg0 (Nat.le_refl _) (fun q hq => by cases hq)⟩
      exfalso
      rw [HD0.out] at hl
      have : Maps.has (im fs) (.int .i64 p.1) = true := by
        unfold im Maps.has
        simp only [List.any_map, List.any_eq_true]
        exact ⟨p, hp, by simp [Lit.sameKey]⟩
      rw [this] at hl
      cases hl)
    clear hrg0 hg0 hs0
    go_loopw [1] (fun v wr => ∃ x, v = .int .i64 x ∧ Hid (∃ (left : Lit → Bool) (cnt : Nat), wr.ranges Try.prog 3 RI mb W.heap.size n D0 left cnt ∧ LeastSo most fs left x ∧ Below W.heap.size W wr)) (fun _ wr => wr.rangeLeft mb W.heap.size)
    case atStart => exact ⟨most, rfl, HST⟩
    case round =>
      obtain ⟨x, rfl, hrel⟩ := hrel
      obtain ⟨left, cnt, hrg, hps, hbw⟩ := hrel.out
      have HREL := Lib.hid (And.intro hps hbw)
      clear hrel HST hps hbw
      go_wp2_with (first
        | (at_next; refine wpList_next_ranges _ rfl _ rfl 3 law_i RI (Value.int .i64) (fun v => v) (fun key kl hk => by obtain ⟨s, e, _⟩ := Maps.keyOf_int_inv Try.underlying3 hk; exact ⟨s, e⟩) (fun v _ _ => ⟨v, rfl⟩) mb W.heap.size n D0 left cnt rfl hrg ?_ ?_)
        | fail)
      · intro hc0 hl0
        have HF : Hid (Q (.returned (.int .i64 x)) wr) := Lib.hid (by
          rw [HQ.out]
          obtain ⟨⟨a1, a2, a3⟩, hb2⟩ := HREL.out
          exact ⟨x, rfl, Lib.hid ⟨⟨a1, fun p hp => a2 p hp (hl0 _), a3⟩, hb2⟩⟩)
        clear hrg hl0 hc0 HREL
        go_wp2
        first | exact HF.out | (go_ret; exact HF.out)
      · intro k cv kl ya yb w1 cnt1 hkey hlk hRv hat hrg1 hlt hg1 hs1 hen
        rw [HD0.out] at hat
        obtain ⟨rfl, z, rfl, hmem⟩ := entry_i HO.out hkey hRv hat
        have HST2 : Hid (∃ (left : Lit → Bool) (cnt : Nat), w1.ranges Try.prog 3 RI mb W.heap.size n D0 left cnt ∧ LeastSo most fs left (min x z) ∧ Below W.heap.size W w1) := Lib.hid
          ⟨_, _, hrg1, HREL.out.1.step HO.out hmem, HREL.out.2.grown hg1 HREL.out.2.size fun q hq => by injection hq with hq; omega⟩
        have HM : Hid (w1.rangeLeft mb W.heap.size < wr.rangeLeft mb W.heap.size) := Lib.hid (by rw [hrg.left_eq, hrg1.left_eq]; exact hlt)
        clear hrg hlk hRv hat hrg1 hlt hg1 hs1 hmem hkey HREL
        go_wp2
        go_roundw
        case rel => exact ⟨_, rfl, HST2⟩
        case measure => exact HM.out

end Go.Proofs.Ytookplnegfheeaa.wM
