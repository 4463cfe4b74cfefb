/-
  The law's model: Do. (Written by gendo.py.)
-/
import Derived.Test.YtkeopkhbcmeplaaMPut2
import Derived.Deep.CutRange
import Derived.Deep.DeepCutAuto
import Derived.Deep.RegionHeld3
import Derived.Outline
namespace Go.Proofs.Ytkeopkhbcmeplaa
open Go.RowKit

def DoPost (w w' : World) (B m : Nat) (v : Value) (r : Int × MS) (e : Ending) : Prop := e = .returned (.int .i64 r.1) ∧ PutPost w w' B m v r.2 r.2.files

theorem PutPost.later {w w1 w' : World} {B m : Nat} {v : Value} {M : MS} {gs : List FileS} (h : PutPost w w1 B m v M gs) (hb : Below w1.heap.size w1 w') : PutPost w w' B m v M gs := by
  obtain ⟨⟨v', h1, h2⟩, h3⟩ := h
  exact ⟨⟨v', h1.below hb, h2⟩, h3.trans (v1 := v') ⟨hb.os, hb.tape, hb.output, hb.size, fun q hq _ _ => hb.block q hq⟩ h2⟩
theorem DoPost.later {w w1 w' : World} {B m : Nat} {v : Value} {r : Int × MS} {e : Ending} (h : DoPost w w1 B m v r e) (hb : Below w1.heap.size w1 w') : DoPost w w' B m v r e := ⟨h.1, h.2.later hb⟩

/-- the act in its box -/
def ABox (W : World) (b : Nat) (a : ActS) : Prop := Box W b 32 #[.int .i64 a.k, .int .i64 a.n, .string a.name, .string a.dest, .string a.data]
theorem ABox.five {W : World} {b : Nat} {a : ActS} (h : ABox W b a) : W.cell? ⟨b, 0, none⟩ = some (.int .i64 a.k) ∧ W.cell? ⟨b, 1, none⟩ = some (.int .i64 a.n) ∧ W.cell? ⟨b, 2, none⟩ = some (.string a.name) ∧ W.cell? ⟨b, 3, none⟩ = some (.string a.dest) ∧ W.cell? ⟨b, 4, none⟩ = some (.string a.data) :=
  ⟨Box.cell h 0, Box.cell h 1, Box.cell h 2, Box.cell h 3, Box.cell h 4⟩

theorem act_k (a : ActS) : (IntKind.u64.wrap a.k).tmod 6 = a.K := by
  rw [show IntKind.u64.wrap a.k = a.k % 18446744073709551616 by simp [IntKind.wrap, IntKind.bits, IntKind.signed]]
  unfold ActS.K
  rw [Int.tmod_eq_emod_of_nonneg (Int.emod_nonneg _ (by decide))]

theorem MAt.cells {w : World} {B m : Nat} {v : Value} {M : MS} (h : MAt w B m v M) :
    (w.cell? ⟨m, 0, none⟩ = some v ∧ w.cell? ⟨m, 1, none⟩ = some (.int .i64 M.size) ∧ w.cell? ⟨m, 2, none⟩ = some (.bool M.down) ∧ w.cell? ⟨m, 3, none⟩ = some (.int .i64 M.falls)) ∧
    (w.frozen? ⟨m, 0, none⟩ = false ∧ w.frozen? ⟨m, 1, none⟩ = false ∧ w.frozen? ⟨m, 2, none⟩ = false ∧ w.frozen? ⟨m, 3, none⟩ = false) := Box.four h.1

/-- one of the model's own cells is stored (not its files) -/
theorem MAt.set {w : World} {B m : Nat} {v : Value} {M M' : MS} (h : MAt w B m v M) (i : Nat) (u : Value) (hf : M'.files = M.files) (hb : (#[v, .int .i64 M.size, .bool M.down, .int .i64 M.falls] : Array Value).setIfInBounds i u = #[v, .int .i64 M'.size, .bool M'.down, .int .i64 M'.falls]) :
    MAt (w.setCell ⟨m, i, none⟩ u) B m v M' ∧ MTurn w (w.setCell ⟨m, i, none⟩ u) m v := by
  have hk : ∀ q, q ≠ m → (w.setCell ⟨m, i, none⟩ u).heap[q]? = w.heap[q]? := fun q hq => Below.heap_setCell w ⟨m, i, none⟩ u q hq
  refine ⟨⟨by have := Box.setSame h.1 i u; rw [hb] at this; exact this, ?_, h.2.2⟩, rfl, rfl, rfl, by simp [World.setCell], fun q _ h1 _ => hk q h1⟩
  rw [hf]
  exact h.2.1.keep fun q hq => hk q fun e => h.2.1.ne h.1 (by rw [hq, e])

theorem MTurn.below {w w' : World} {m : Nat} {v : Value} (h : Below w.heap.size w w') : MTurn w w' m v := ⟨h.os, h.tape, h.output, h.size, fun q hq _ _ => h.block q hq⟩
theorem MTurn.refl (w : World) (m : Nat) (v : Value) : MTurn w w m v := ⟨rfl, rfl, rfl, Nat.le_refl _, fun _ _ _ _ => rfl⟩

/-- the act's box beside the model's turns -/
theorem ABox.kept {w w' : World} {B m b : Nat} {v : Value} {M : MS} {a : ActS} (h : ABox w b a) (hm : MAt w B m v M) (ht : MTurn w w' m v) : ABox w' b a := by
  refine (ht.2.2.2.2 b h.lt (fun e => ?_) fun e => ?_).trans h
  · have h1 := hm.1
    unfold ABox Box at h
    unfold Box at h1
    rw [e, h1] at h
    injection h with h
    injection h with _ h _
    exact absurd h (by decide)
  · rcases hm.2.1.2 with ⟨rfl, _⟩ | ⟨g, cap, cur, rfl, _, hg, _⟩
    · cases e
    · obtain rfl : g = b := by simpa [Value.ownBlock] using e
      unfold ABox Box at h
      rw [hg] at h
      injection h with h
      injection h with _ h _
      exact absurd h (by decide)

theorem ABox.ne {w : World} {B b g n c : Nat} {a : ActS} {gs : List FileS} (h : ABox w b a) (hr : MRow w B (.slice (some ⟨g, 0, none⟩) n c) gs) : g ≠ b := fun e => by
  rcases hr.2 with ⟨h1, _⟩ | ⟨g', cap, cur, h1, _, hg, _⟩
  · cases h1
  · obtain rfl : g = g' := by
      injection h1 with h1; injection h1 with h1; injection h1 with h1
    unfold ABox Box at h
    rw [← e, hg] at h
    injection h with h
    injection h with _ h _
    exact absurd h (by decide)

theorem drop_at {k : L8} {gs : List FileS} (h : isAt k gs = true) : gs.take (hd k gs).length ++ gs.drop ((hd k gs).length + 1) = mdrop k gs := by
  obtain ⟨y, r, e1, e2, e3, e4⟩ := isAt_split h
  unfold mdrop
  rw [e4, (take_hd k gs).1, ← List.drop_drop, (take_hd k gs).2.1, e1]
  rfl

/-- one cell of a file is stored -/
theorem store_out {w w2 : World} {B m g c : Nat} {M1 : MS} (hM : MAt w2 B m (.slice (some ⟨g, 0, none⟩) M1.files.length c) M1) (hT : MTurn w w2 m (.slice (some ⟨g, 0, none⟩) M1.files.length c)) (i j : Nat) (u : Value) (f : FileS) (hi : i < M1.files.length) (hj : j < 3) (he : (fcells (M1.files[i])).set j u = fcells f) :
    MAt (w2.setCell ⟨g, i * 3 + j, none⟩ u) B m (.slice (some ⟨g, 0, none⟩) M1.files.length c) { M1 with files := M1.files.set i f } ∧ MTurn w (w2.setCell ⟨g, i * 3 + j, none⟩ u) m (.slice (some ⟨g, 0, none⟩) M1.files.length c) := by
  have hk : ∀ q, q ≠ g → (w2.setCell ⟨g, i * 3 + j, none⟩ u).heap[q]? = w2.heap[q]? := fun q hq => Below.heap_setCell w2 ⟨g, i * 3 + j, none⟩ u q hq
  have hne : g ≠ m := fun e => hM.2.1.ne hM.1 (by rw [e]; rfl)
  exact ⟨⟨(hk m (Ne.symm hne)).trans hM.1, hM.2.1.set rfl i j u f hi hj he, hM.2.2⟩, hT.trans ⟨rfl, rfl, rfl, by simp [World.setCell], fun q _ _ h2 => hk q fun e => h2 (by rw [e]; rfl)⟩ (VNew.refl _ _)⟩

/-- the file that is there -/
theorem at_file {k : L8} {gs : List FileS} (h : isAt k gs = true) : (mfile k gs).name = k ∧ (hd k gs).length < gs.length ∧ (∀ hi : (hd k gs).length < gs.length, gs[(hd k gs).length]'hi = mfile k gs) ∧ ∀ f, gs.set (hd k gs).length f = hd k gs ++ f :: tl2 k gs := by
  obtain ⟨y, r, e1, e2, e3, e4⟩ := isAt_split h
  have e5 : mfile k gs = y := by unfold mfile; rw [h, e1]; rfl
  refine ⟨by rw [e5]; exact e2, (set_at y h).2, fun hi => ?_, fun f => (set_at f h).1⟩
  rw [e5]
  have h1 : gs[(hd k gs).length]? = some y := by
    obtain ⟨A, hA⟩ : ∃ A, A = hd k gs := ⟨_, rfl⟩
    rw [← hA] at e3 ⊢
    rw [e3, List.getElem?_append_right (Nat.le_refl _)]
    simp
  rw [List.getElem?_eq_getElem hi] at h1
  exact Option.some.inj h1

set_option maxHeartbeats 4000000 in
set_option maxRecDepth 100000 in
theorem do_5 {w : World} {B m : Nat} {v : Value} {M : MS} (h : MAt w B m v M) (a : ActS) (hK : a.K = 5) :
    Calls Try.prog 14 #[.pointer (some ⟨m, 0, none⟩), .agg #[.int .i64 a.k, .int .i64 a.n, .string a.name, .string a.dest, .string a.data]] w fun e w' => DoPost w w' B m v (0, { M with falls := max a.n 0 }) e := by
  have hk := act_k a
  have hA : MAt (w.alloc (.cells #[.int .i64 a.k, .int .i64 a.n, .string a.name, .string a.dest, .string a.data] 32)) B m v M := h.below ((Below.refl w.heap.size w).alloc (Nat.le_refl _) _)
  have hT : MTurn w (w.alloc (.cells #[.int .i64 a.k, .int .i64 a.n, .string a.name, .string a.dest, .string a.data] 32)) m v := MTurn.below ((Below.refl w.heap.size w).alloc (Nat.le_refl _) _)
  have hX : ABox (w.alloc (.cells #[.int .i64 a.k, .int .i64 a.n, .string a.name, .string a.dest, .string a.data] 32)) w.heap.size a := heap_alloc_new w _
  rw [hK] at hk
  obtain ⟨⟨c0, c1, c2, c3⟩, f0, f1, f2, f3⟩ := h.cells
  have hm := h.lt.1
  have hS := h.set (M' := { M with falls := max a.n 0 }) 3 (.int .i64 (max a.n 0)) rfl rfl
  have hb9 := (Below.refl (w.setCell ⟨m, 3, none⟩ (.int .i64 (max a.n 0))).heap.size (w.setCell ⟨m, 3, none⟩ (.int .i64 (max a.n 0)))).alloc (Nat.le_refl _) (.cells #[.int .i64 a.k, .int .i64 a.n, .string a.name, .string a.dest, .string a.data] 32)
  have HF := Lib.hid (And.intro (hS.1.below hb9) (hS.2.trans (MTurn.below hb9) (VNew.refl _ _)))
  clear hA hT hX hS hb9 h hK
  go_enter Try.func14, Try.ntmps14
  go_wp2
  go_ret
  exact ⟨rfl, ⟨v, HF.out.1, VNew.refl _ _⟩, HF.out.2⟩

set_option maxHeartbeats 4000000 in
set_option maxRecDepth 100000 in
theorem do_down {w : World} {B m : Nat} {v : Value} {M : MS} (h : MAt w B m v M) (a : ActS) (hK : a.K ≠ 5) (hd : M.down = true) :
    Calls Try.prog 14 #[.pointer (some ⟨m, 0, none⟩), .agg #[.int .i64 a.k, .int .i64 a.n, .string a.name, .string a.dest, .string a.data]] w fun e w' => DoPost w w' B m v (8, { M with down := true }) e := by
  have hk := act_k a
  have hA : MAt (w.alloc (.cells #[.int .i64 a.k, .int .i64 a.n, .string a.name, .string a.dest, .string a.data] 32)) B m v M := h.below ((Below.refl w.heap.size w).alloc (Nat.le_refl _) _)
  have hT : MTurn w (w.alloc (.cells #[.int .i64 a.k, .int .i64 a.n, .string a.name, .string a.dest, .string a.data] 32)) m v := MTurn.below ((Below.refl w.heap.size w).alloc (Nat.le_refl _) _)
  have hX : ABox (w.alloc (.cells #[.int .i64 a.k, .int .i64 a.n, .string a.name, .string a.dest, .string a.data] 32)) w.heap.size a := heap_alloc_new w _
  obtain ⟨⟨c0, c1, c2, c3⟩, f0, f1, f2, f3⟩ := h.cells
  have hm := h.lt.1
  have hS := h.set (M' := { M with down := true }) 2 (.bool true) rfl rfl
  have hb9 := (Below.refl (w.setCell ⟨m, 2, none⟩ (.bool true)).heap.size (w.setCell ⟨m, 2, none⟩ (.bool true))).alloc (Nat.le_refl _) (.cells #[.int .i64 a.k, .int .i64 a.n, .string a.name, .string a.dest, .string a.data] 32)
  have HF := Lib.hid (And.intro (hS.1.below hb9) (hS.2.trans (MTurn.below hb9) (VNew.refl _ _)))
  rw [hd] at c2
  have hk0 : 0 ≤ a.K ∧ a.K < 6 := by unfold ActS.K; omega
  have hk5 : (a.K == 5) = false := by rw [beq_eq_false_iff_ne]; exact hK
  have hkw : wrap64 a.K = a.K := by unfold wrap64; omega
  generalize a.K = K at hk hk5 hkw
  clear hA hT hX hS hb9 h hK hk0 hd
  go_enter Try.func14, Try.ntmps14
  go_wp2
  go_ret
  exact ⟨rfl, ⟨v, HF.out.1, VNew.refl _ _⟩, HF.out.2⟩

set_option maxHeartbeats 4000000 in
set_option maxRecDepth 100000 in
theorem do_falls {w : World} {B m : Nat} {v : Value} {M : MS} (h : MAt w B m v M) (a : ActS) (hK : a.K ≠ 5) (hd : M.down = false) (hf : M.falls = 0) :
    Calls Try.prog 14 #[.pointer (some ⟨m, 0, none⟩), .agg #[.int .i64 a.k, .int .i64 a.n, .string a.name, .string a.dest, .string a.data]] w fun e w' => DoPost w w' B m v (8, { M with down := true }) e := by
  have hk := act_k a
  have hA : MAt (w.alloc (.cells #[.int .i64 a.k, .int .i64 a.n, .string a.name, .string a.dest, .string a.data] 32)) B m v M := h.below ((Below.refl w.heap.size w).alloc (Nat.le_refl _) _)
  have hT : MTurn w (w.alloc (.cells #[.int .i64 a.k, .int .i64 a.n, .string a.name, .string a.dest, .string a.data] 32)) m v := MTurn.below ((Below.refl w.heap.size w).alloc (Nat.le_refl _) _)
  have hX : ABox (w.alloc (.cells #[.int .i64 a.k, .int .i64 a.n, .string a.name, .string a.dest, .string a.data] 32)) w.heap.size a := heap_alloc_new w _
  obtain ⟨⟨c0, c1, c2, c3⟩, f0, f1, f2, f3⟩ := h.cells
  have hm := h.lt.1
  have hS := h.set (M' := { M with down := true }) 2 (.bool true) rfl rfl
  have hb9 := (Below.refl (w.setCell ⟨m, 2, none⟩ (.bool true)).heap.size (w.setCell ⟨m, 2, none⟩ (.bool true))).alloc (Nat.le_refl _) (.cells #[.int .i64 a.k, .int .i64 a.n, .string a.name, .string a.dest, .string a.data] 32)
  have HF := Lib.hid (And.intro (hS.1.below hb9) (hS.2.trans (MTurn.below hb9) (VNew.refl _ _)))
  rw [hd] at c2
  rw [hf] at c3
  have hk0 : 0 ≤ a.K ∧ a.K < 6 := by unfold ActS.K; omega
  have hk5 : (a.K == 5) = false := by rw [beq_eq_false_iff_ne]; exact hK
  have hkw : wrap64 a.K = a.K := by unfold wrap64; omega
  generalize a.K = K at hk hk5 hkw
  clear hA hT hX hS hb9 h hK hk0 hd hf
  go_enter Try.func14, Try.ntmps14
  go_wp2
  go_ret
  exact ⟨rfl, ⟨v, HF.out.1, VNew.refl _ _⟩, HF.out.2⟩

set_option maxHeartbeats 4000000 in
set_option maxRecDepth 100000 in
theorem do_1 {w : World} {B m : Nat} {v : Value} {M : MS} (h : MAt w B m v M) (a : ActS) (hr : RiseF M.files) (hn : M.files.length ≤ 100000) (hb : 0 ≤ M.size ∧ M.size ≤ 1048576 ∧ (sumF M.files : Int) ≤ 1048576 ∧ -9223372036854775807 ≤ M.falls ∧ M.falls ≤ 9223372036854775807) (hd : M.down = false) (hf : M.falls ≠ 0) (M1 : MS) (hM1 : M1 = { M with falls := if 0 < M.falls then M.falls - 1 else M.falls }) (hK : a.K = 1) :
    Calls Try.prog 14 #[.pointer (some ⟨m, 0, none⟩), .agg #[.int .i64 a.k, .int .i64 a.n, .string a.name, .string a.dest, .string a.data]] w fun e w' => DoPost w w' B m v (M1.sync a.name) e := by
  have hk := act_k a
  have hA : MAt (w.alloc (.cells #[.int .i64 a.k, .int .i64 a.n, .string a.name, .string a.dest, .string a.data] 32)) B m v M := h.below ((Below.refl w.heap.size w).alloc (Nat.le_refl _) _)
  have hT : MTurn w (w.alloc (.cells #[.int .i64 a.k, .int .i64 a.n, .string a.name, .string a.dest, .string a.data] 32)) m v := MTurn.below ((Below.refl w.heap.size w).alloc (Nat.le_refl _) _)
  have hX : ABox (w.alloc (.cells #[.int .i64 a.k, .int .i64 a.n, .string a.name, .string a.dest, .string a.data] 32)) w.heap.size a := heap_alloc_new w _
  rw [hK] at hk
  obtain ⟨⟨c0, c1, c2, c3⟩, f0, f1, f2, f3⟩ := h.cells
  have hm := h.lt.1
  rw [hd] at c2
  have hf0 : (M.falls == 0) = false := by rw [beq_eq_false_iff_ne]; exact hf
  have HM := Lib.hid (And.intro h (And.intro hr (And.intro hn hb)))
  have HM1 := Lib.hid hM1
  have HU : Hid (∀ Z, Z = M1.falls → MAt ((w.setCell ⟨m, 3, none⟩ (.int .i64 Z)).alloc (.cells #[.int .i64 a.k, .int .i64 a.n, .string a.name, .string a.dest, .string a.data] 32)) B m v M1 ∧ ABox ((w.setCell ⟨m, 3, none⟩ (.int .i64 Z)).alloc (.cells #[.int .i64 a.k, .int .i64 a.n, .string a.name, .string a.dest, .string a.data] 32)) w.heap.size a ∧ MTurn w ((w.setCell ⟨m, 3, none⟩ (.int .i64 Z)).alloc (.cells #[.int .i64 a.k, .int .i64 a.n, .string a.name, .string a.dest, .string a.data] 32)) m v) := Lib.hid fun Z hZ => by
    subst hZ
    have hS := h.set (M' := M1) 3 (.int .i64 M1.falls) (by rw [hM1]) (by rw [hM1]; rfl)
    have hb9 := (Below.refl (w.setCell ⟨m, 3, none⟩ (.int .i64 M1.falls)).heap.size (w.setCell ⟨m, 3, none⟩ (.int .i64 M1.falls))).alloc (Nat.le_refl _) (.cells #[.int .i64 a.k, .int .i64 a.n, .string a.name, .string a.dest, .string a.data] 32)
    refine ⟨hS.1.below hb9, ?_, hS.2.trans (MTurn.below hb9) (VNew.refl _ _)⟩
    have hz : (w.setCell ⟨m, 3, none⟩ (.int .i64 M1.falls)).heap.size = w.heap.size := by simp [World.setCell]
    have := heap_alloc_new (w.setCell ⟨m, 3, none⟩ (.int .i64 M1.falls)) (.cells #[.int .i64 a.k, .int .i64 a.n, .string a.name, .string a.dest, .string a.data] 32)
    rw [hz] at this
    exact this
  have HV : Hid (M1.falls = M.falls → MAt (w.alloc (.cells #[.int .i64 a.k, .int .i64 a.n, .string a.name, .string a.dest, .string a.data] 32)) B m v M1 ∧ ABox (w.alloc (.cells #[.int .i64 a.k, .int .i64 a.n, .string a.name, .string a.dest, .string a.data] 32)) w.heap.size a ∧ MTurn w (w.alloc (.cells #[.int .i64 a.k, .int .i64 a.n, .string a.name, .string a.dest, .string a.data] 32)) m v) := Lib.hid fun hZ => by
    have e : M1 = M := by rw [hM1] at hZ ⊢; show MS.mk _ _ _ _ = _; have hZ : (if 0 < M.falls then M.falls - 1 else M.falls) = M.falls := hZ; rw [hZ]
    rw [e]
    exact ⟨hA, hX, hT⟩
  have HFL : Hid (M1.falls = if 0 < M.falls then M.falls - 1 else M.falls) := Lib.hid (by rw [hM1])
  have HFI : Hid (M1.files = M.files ∧ M1.size = M.size) := Lib.hid (by rw [hM1]; exact ⟨rfl, rfl⟩)
  have hw0 : IntKind.i64.wrap (M.falls - 1) = M.falls - 1 := by rw [IntKind.wrap_i64]; omega
  clear hA hT hX h hd hM1 hf hr
  go_enter Try.func14, Try.ntmps14
  go_upto_if 41 with (fail)
  go_cut [4] (fun _ wx => Hid (MAt wx B m v M1 ∧ ABox wx w.heap.size a ∧ MTurn w wx m v))
  case first =>
    by_cases hp : 0 < M.falls
    · have HZ := Lib.hid (HU.out (M.falls - 1) (by rw [HFL.out, if_pos hp]))
      clear HU HV HFL HFI HM HM1
      go_wp2
      go_meet
      exact HZ
    · have HZ := Lib.hid (HV.out (by rw [HFL.out, if_neg hp]))
      clear HU HV HFL HFI HM HM1
      go_wp2
      go_meet
      exact HZ
  case rest =>
    have HC := hcut
    have hm1 := HC.out.1.lt.1
    have hb1 := HC.out.2.1.lt
    have HFD := Lib.hid (find_any HC.out.1 (by rw [HFI.out.1]; omega) a.name)
    obtain ⟨x0, x1, x2, x3, x4⟩ := HC.out.2.1.five
    clear hcut HU HV HFL hw0 hf0 c0 c1 c2 c3 f0 f1 f2 f3 hm
    go_wp2_with fail
    refine HFD.out.mono ?_
    rintro e w2 ⟨rfl, hb2⟩
    have hM2 := HC.out.1.below hb2
    have hX2 : ABox w2 w.heap.size a := (hb2.block _ hb1).trans HC.out.2.1
    have hT2 := HC.out.2.2.trans (MTurn.below hb2) (VNew.refl _ _)
    obtain ⟨x0, x1, x2, x3, x4⟩ := hX2.five
    have hm2 := hM2.lt.1
    have hb3 := hX2.lt
    clear hb2 hm1 hb1 HC HFD
    cases hat : isAt (bl a.name) M1.files with
    | false =>
      have HF : Hid (DoPost w w2 B m v (M1.sync a.name) (.returned (.int .i64 5))) := Lib.hid (by unfold MS.sync; rw [if_pos hat]; exact ⟨rfl, ⟨v, hM2, VNew.refl _ _⟩, hT2⟩)
      clear hM2 hX2 hT2 HM HM1 HFI
      go_wp2
      go_ret
      exact HF.out
    | true =>
      obtain ⟨hnm, hilt, hfile, hset⟩ := at_file hat
      obtain ⟨va, vc, rfl, hvc⟩ := hM2.2.1.form
      obtain ⟨g, rfl, hg0, hg⟩ := hM2.2.1.blk (by omega)
      obtain ⟨d0, d1, d2⟩ := hM2.2.1.cell _ hilt
      rw [hfile hilt] at d0 d1 d2
      have k0 := World.ownsRow.frozenAt hM2.2.1 ((hd (bl a.name) M1.files).length * 3)
      have k1 := World.ownsRow.frozenAt hM2.2.1 ((hd (bl a.name) M1.files).length * 3 + 1)
      have k2 := World.ownsRow.frozenAt hM2.2.1 ((hd (bl a.name) M1.files).length * 3 + 2)
      have hrow := fun f j u hj he => hM2.2.1.set rfl _ j u f hilt hj he
      have hilen : (((hd (bl a.name) M1.files).length : Nat) : Int) < (M1.files.length : Int) := by omega
      obtain ⟨c0, c1, c2, c3⟩ := hM2.cells.1
      obtain ⟨fl0, hfl⟩ : ∃ fl0, fl0 = mfile (bl a.name) M1.files := ⟨_, rfl⟩
      rw [← hfl] at hnm d0 d1 d2
      have hne : g ≠ m := fun e => hM2.2.1.ne hM2.1 (by rw [e]; rfl)
      have hgx : g ≠ w.heap.size := hX2.ne hM2.2.1
      have hsz : (⟨fl0.data.toArray⟩ : ByteArray).size = fl0.data.length := by rw [← bl_length, bl_of]
      obtain ⟨dt, hdt⟩ : ∃ dt : ByteArray, dt = ⟨fl0.data.toArray⟩ := ⟨_, rfl⟩
      obtain ⟨nm, hnm2⟩ : ∃ nm : ByteArray, nm = ⟨fl0.name.toArray⟩ := ⟨_, rfl⟩
      rw [← hdt] at d1 hsz
      rw [← hnm2] at d0
      have HSZ := Lib.hid (And.intro hsz (And.intro hdt hnm2))
      clear hsz hdt hnm2
      have HFL := Lib.hid (And.intro hfl hfile)
      have HNM := Lib.hid hnm
      clear hfl hnm hfile
      have HF : Hid (DoPost w (w2.setCell ⟨g, (hd (bl a.name) M1.files).length * 3 + 2, none⟩ (.int .i64 dt.size)) B m (.slice (some ⟨g, 0, none⟩) M1.files.length vc) (M1.sync a.name) (.returned (.int .i64 0))) := Lib.hid (by
        obtain ⟨h1, h2⟩ := store_out hM2 hT2 _ 2 (.int .i64 dt.size) { mfile (bl a.name) M1.files with safe := (mfile (bl a.name) M1.files).data.length } hilt (by omega) (by rw [HFL.out.2 hilt, HSZ.out.1, HFL.out.1]; rfl)
        rw [hset] at h1
        unfold MS.sync
        rw [if_neg (by rw [hat]; simp)]
        exact ⟨rfl, ⟨_, h1, VNew.refl _ _⟩, h2⟩)
      generalize hgi : (hd (bl a.name) M1.files).length = i at hilt d0 d1 d2 k0 k1 k2 hilen HF ⊢
      have HLT := Lib.hid hilt
      clear hgi hM2 hX2 hT2 HM HM1 HFI hrow hset HFL HNM HSZ hilt
      go_wp2
      go_region
      all_goals go_wp2
      all_goals (refine bodyPost_ret (v := .int .i64 0) (by simp [results, Try.results14, go_sem]) rfl ?_; exact HF.out.later (((Below.refl _ _).alloc (Nat.le_refl _) _).drew))

set_option maxHeartbeats 4000000 in
set_option maxRecDepth 100000 in
theorem do_3 {w : World} {B m : Nat} {v : Value} {M : MS} (h : MAt w B m v M) (a : ActS) (hr : RiseF M.files) (hn : M.files.length ≤ 100000) (hb : 0 ≤ M.size ∧ M.size ≤ 1048576 ∧ (sumF M.files : Int) ≤ 1048576 ∧ -9223372036854775807 ≤ M.falls ∧ M.falls ≤ 9223372036854775807) (hd : M.down = false) (hf : M.falls ≠ 0) (M1 : MS) (hM1 : M1 = { M with falls := if 0 < M.falls then M.falls - 1 else M.falls }) (hK : a.K = 3) :
    Calls Try.prog 14 #[.pointer (some ⟨m, 0, none⟩), .agg #[.int .i64 a.k, .int .i64 a.n, .string a.name, .string a.dest, .string a.data]] w fun e w' => DoPost w w' B m v (M1.rem a.name) e := by
  have hk := act_k a
  have hA : MAt (w.alloc (.cells #[.int .i64 a.k, .int .i64 a.n, .string a.name, .string a.dest, .string a.data] 32)) B m v M := h.below ((Below.refl w.heap.size w).alloc (Nat.le_refl _) _)
  have hT : MTurn w (w.alloc (.cells #[.int .i64 a.k, .int .i64 a.n, .string a.name, .string a.dest, .string a.data] 32)) m v := MTurn.below ((Below.refl w.heap.size w).alloc (Nat.le_refl _) _)
  have hX : ABox (w.alloc (.cells #[.int .i64 a.k, .int .i64 a.n, .string a.name, .string a.dest, .string a.data] 32)) w.heap.size a := heap_alloc_new w _
  rw [hK] at hk
  obtain ⟨⟨c0, c1, c2, c3⟩, f0, f1, f2, f3⟩ := h.cells
  have hm := h.lt.1
  rw [hd] at c2
  have hf0 : (M.falls == 0) = false := by rw [beq_eq_false_iff_ne]; exact hf
  have HM := Lib.hid (And.intro h (And.intro hr (And.intro hn hb)))
  have HM1 := Lib.hid hM1
  have HU : Hid (∀ Z, Z = M1.falls → MAt ((w.setCell ⟨m, 3, none⟩ (.int .i64 Z)).alloc (.cells #[.int .i64 a.k, .int .i64 a.n, .string a.name, .string a.dest, .string a.data] 32)) B m v M1 ∧ ABox ((w.setCell ⟨m, 3, none⟩ (.int .i64 Z)).alloc (.cells #[.int .i64 a.k, .int .i64 a.n, .string a.name, .string a.dest, .string a.data] 32)) w.heap.size a ∧ MTurn w ((w.setCell ⟨m, 3, none⟩ (.int .i64 Z)).alloc (.cells #[.int .i64 a.k, .int .i64 a.n, .string a.name, .string a.dest, .string a.data] 32)) m v) := Lib.hid fun Z hZ => by
    subst hZ
    have hS := h.set (M' := M1) 3 (.int .i64 M1.falls) (by rw [hM1]) (by rw [hM1]; rfl)
    have hb9 := (Below.refl (w.setCell ⟨m, 3, none⟩ (.int .i64 M1.falls)).heap.size (w.setCell ⟨m, 3, none⟩ (.int .i64 M1.falls))).alloc (Nat.le_refl _) (.cells #[.int .i64 a.k, .int .i64 a.n, .string a.name, .string a.dest, .string a.data] 32)
    refine ⟨hS.1.below hb9, ?_, hS.2.trans (MTurn.below hb9) (VNew.refl _ _)⟩
    have hz : (w.setCell ⟨m, 3, none⟩ (.int .i64 M1.falls)).heap.size = w.heap.size := by simp [World.setCell]
    have := heap_alloc_new (w.setCell ⟨m, 3, none⟩ (.int .i64 M1.falls)) (.cells #[.int .i64 a.k, .int .i64 a.n, .string a.name, .string a.dest, .string a.data] 32)
    rw [hz] at this
    exact this
  have HV : Hid (M1.falls = M.falls → MAt (w.alloc (.cells #[.int .i64 a.k, .int .i64 a.n, .string a.name, .string a.dest, .string a.data] 32)) B m v M1 ∧ ABox (w.alloc (.cells #[.int .i64 a.k, .int .i64 a.n, .string a.name, .string a.dest, .string a.data] 32)) w.heap.size a ∧ MTurn w (w.alloc (.cells #[.int .i64 a.k, .int .i64 a.n, .string a.name, .string a.dest, .string a.data] 32)) m v) := Lib.hid fun hZ => by
    have e : M1 = M := by rw [hM1] at hZ ⊢; show MS.mk _ _ _ _ = _; have hZ : (if 0 < M.falls then M.falls - 1 else M.falls) = M.falls := hZ; rw [hZ]
    rw [e]
    exact ⟨hA, hX, hT⟩
  have HFL : Hid (M1.falls = if 0 < M.falls then M.falls - 1 else M.falls) := Lib.hid (by rw [hM1])
  have HFI : Hid (M1.files = M.files ∧ M1.size = M.size) := Lib.hid (by rw [hM1]; exact ⟨rfl, rfl⟩)
  have hw0 : IntKind.i64.wrap (M.falls - 1) = M.falls - 1 := by rw [IntKind.wrap_i64]; omega
  clear hA hT hX h hd hM1 hf hr
  go_enter Try.func14, Try.ntmps14
  go_upto_if 41 with (fail)
  go_cut [4] (fun _ wx => Hid (MAt wx B m v M1 ∧ ABox wx w.heap.size a ∧ MTurn w wx m v))
  case first =>
    by_cases hp : 0 < M.falls
    · have HZ := Lib.hid (HU.out (M.falls - 1) (by rw [HFL.out, if_pos hp]))
      clear HU HV HFL HFI HM HM1
      go_wp2
      go_meet
      exact HZ
    · have HZ := Lib.hid (HV.out (by rw [HFL.out, if_neg hp]))
      clear HU HV HFL HFI HM HM1
      go_wp2
      go_meet
      exact HZ
  case rest =>
    have HC := hcut
    have hm1 := HC.out.1.lt.1
    have hb1 := HC.out.2.1.lt
    have HFD := Lib.hid (find_any HC.out.1 (by rw [HFI.out.1]; omega) a.name)
    obtain ⟨x0, x1, x2, x3, x4⟩ := HC.out.2.1.five
    clear hcut HU HV HFL hw0 hf0 c0 c1 c2 c3 f0 f1 f2 f3 hm
    go_wp2_with fail
    refine HFD.out.mono ?_
    rintro e w2 ⟨rfl, hb2⟩
    have hM2 := HC.out.1.below hb2
    have hX2 : ABox w2 w.heap.size a := (hb2.block _ hb1).trans HC.out.2.1
    have hT2 := HC.out.2.2.trans (MTurn.below hb2) (VNew.refl _ _)
    obtain ⟨x0, x1, x2, x3, x4⟩ := hX2.five
    have hm2 := hM2.lt.1
    have hb3 := hX2.lt
    clear hb2 hm1 hb1 HC HFD
    cases hat : isAt (bl a.name) M1.files with
    | false =>
      have HF : Hid (DoPost w w2 B m v (M1.rem a.name) (.returned (.int .i64 5))) := Lib.hid (by unfold MS.rem; rw [if_pos hat]; exact ⟨rfl, ⟨v, hM2, VNew.refl _ _⟩, hT2⟩)
      clear hM2 hX2 hT2 HM HM1 HFI
      go_wp2
      go_ret
      exact HF.out
    | true =>
      obtain ⟨hnm, hilt, hfile, hset⟩ := at_file hat
      obtain ⟨va, vc, rfl, hvc⟩ := hM2.2.1.form
      obtain ⟨g, rfl, hg0, hg⟩ := hM2.2.1.blk (by omega)
      obtain ⟨d0, d1, d2⟩ := hM2.2.1.cell _ hilt
      rw [hfile hilt] at d0 d1 d2
      have k0 := World.ownsRow.frozenAt hM2.2.1 ((hd (bl a.name) M1.files).length * 3)
      have k1 := World.ownsRow.frozenAt hM2.2.1 ((hd (bl a.name) M1.files).length * 3 + 1)
      have k2 := World.ownsRow.frozenAt hM2.2.1 ((hd (bl a.name) M1.files).length * 3 + 2)
      have hrow := fun f j u hj he => hM2.2.1.set rfl _ j u f hilt hj he
      have hilen : (((hd (bl a.name) M1.files).length : Nat) : Int) < (M1.files.length : Int) := by omega
      obtain ⟨c0, c1, c2, c3⟩ := hM2.cells.1
      obtain ⟨fl0, hfl⟩ : ∃ fl0, fl0 = mfile (bl a.name) M1.files := ⟨_, rfl⟩
      rw [← hfl] at hnm d0 d1 d2
      have hne : g ≠ m := fun e => hM2.2.1.ne hM2.1 (by rw [e]; rfl)
      have hgx : g ≠ w.heap.size := hX2.ne hM2.2.1
      have hsz : (⟨fl0.data.toArray⟩ : ByteArray).size = fl0.data.length := by rw [← bl_length, bl_of]
      obtain ⟨dt, hdt⟩ : ∃ dt : ByteArray, dt = ⟨fl0.data.toArray⟩ := ⟨_, rfl⟩
      obtain ⟨nm, hnm2⟩ : ∃ nm : ByteArray, nm = ⟨fl0.name.toArray⟩ := ⟨_, rfl⟩
      rw [← hdt] at d1 hsz
      rw [← hnm2] at d0
      have HSZ := Lib.hid (And.intro hsz (And.intro hdt hnm2))
      clear hsz hdt hnm2
      have HFL := Lib.hid (And.intro hfl hfile)
      have HNM := Lib.hid hnm
      clear hfl hnm hfile
      have hbA : Below w2.heap.size w2 (w2.alloc (.cells #[.string nm, .string dt, .int .i64 fl0.safe] 45)) := (Below.refl _ w2).alloc (Nat.le_refl _) _
      have HD := Lib.hid (mdrop_any (hM2.below hbA) (by rw [HFI.out.1]; exact hn) _ hilt)
      have HF : Hid (∀ W, (∃ v', MAt W B m v' { M1 with files := M1.files.take (hd (bl a.name) M1.files).length ++ M1.files.drop ((hd (bl a.name) M1.files).length + 1) } ∧ VNew (w2.alloc (.cells #[.string nm, .string dt, .int .i64 fl0.safe] 45)) (.slice (some ⟨g, 0, none⟩) M1.files.length vc) v') → MTurn (w2.alloc (.cells #[.string nm, .string dt, .int .i64 fl0.safe] 45)) W m (.slice (some ⟨g, 0, none⟩) M1.files.length vc) → DoPost w W B m (.slice (some ⟨g, 0, none⟩) M1.files.length vc) (M1.rem a.name) (.returned (.int .i64 0))) := Lib.hid (by
        rintro W ⟨v', h1, h2⟩ h3
        rw [drop_at hat] at h1
        have hT4 := hT2.trans (MTurn.below hbA) (VNew.refl _ _)
        unfold MS.rem
        rw [if_neg (by rw [hat]; simp)]
        exact ⟨rfl, ⟨v', h1, (VNew.refl w _).trans h2 hT4.2.2.2.1⟩, hT4.trans h3 (VNew.refl _ _)⟩)
      generalize hgi : (hd (bl a.name) M1.files).length = i at hilt d0 d1 d2 k0 k1 k2 hilen HF HD ⊢
      clear hgi hM2 hX2 hT2 HM HM1 HFI hrow hset HFL HNM HSZ hilt hbA
      go_wp2_with fail
      refine HD.out.mono ?_
      rintro e w5 ⟨rfl, h5, t5⟩
      have HF5 := Lib.hid (HF.out _ h5 t5)
      clear h5 t5 HF HD
      go_wp2
      go_ret
      exact HF5.out

set_option maxHeartbeats 4000000 in
set_option maxRecDepth 100000 in
theorem do_4 {w : World} {B m : Nat} {v : Value} {M : MS} (h : MAt w B m v M) (a : ActS) (hr : RiseF M.files) (hn : M.files.length ≤ 100000) (hb : 0 ≤ M.size ∧ M.size ≤ 1048576 ∧ (sumF M.files : Int) ≤ 1048576 ∧ -9223372036854775807 ≤ M.falls ∧ M.falls ≤ 9223372036854775807) (hd : M.down = false) (hf : M.falls ≠ 0) (M1 : MS) (hM1 : M1 = { M with falls := if 0 < M.falls then M.falls - 1 else M.falls }) (hK : a.K = 4) :
    Calls Try.prog 14 #[.pointer (some ⟨m, 0, none⟩), .agg #[.int .i64 a.k, .int .i64 a.n, .string a.name, .string a.dest, .string a.data]] w fun e w' => DoPost w w' B m v (M1.tru a.name a.n) e := by
  have hk := act_k a
  have hA : MAt (w.alloc (.cells #[.int .i64 a.k, .int .i64 a.n, .string a.name, .string a.dest, .string a.data] 32)) B m v M := h.below ((Below.refl w.heap.size w).alloc (Nat.le_refl _) _)
  have hT : MTurn w (w.alloc (.cells #[.int .i64 a.k, .int .i64 a.n, .string a.name, .string a.dest, .string a.data] 32)) m v := MTurn.below ((Below.refl w.heap.size w).alloc (Nat.le_refl _) _)
  have hX : ABox (w.alloc (.cells #[.int .i64 a.k, .int .i64 a.n, .string a.name, .string a.dest, .string a.data] 32)) w.heap.size a := heap_alloc_new w _
  rw [hK] at hk
  obtain ⟨⟨c0, c1, c2, c3⟩, f0, f1, f2, f3⟩ := h.cells
  have hm := h.lt.1
  rw [hd] at c2
  have hf0 : (M.falls == 0) = false := by rw [beq_eq_false_iff_ne]; exact hf
  have HM := Lib.hid (And.intro h (And.intro hr (And.intro hn hb)))
  have HM1 := Lib.hid hM1
  have HU : Hid (∀ Z, Z = M1.falls → MAt ((w.setCell ⟨m, 3, none⟩ (.int .i64 Z)).alloc (.cells #[.int .i64 a.k, .int .i64 a.n, .string a.name, .string a.dest, .string a.data] 32)) B m v M1 ∧ ABox ((w.setCell ⟨m, 3, none⟩ (.int .i64 Z)).alloc (.cells #[.int .i64 a.k, .int .i64 a.n, .string a.name, .string a.dest, .string a.data] 32)) w.heap.size a ∧ MTurn w ((w.setCell ⟨m, 3, none⟩ (.int .i64 Z)).alloc (.cells #[.int .i64 a.k, .int .i64 a.n, .string a.name, .string a.dest, .string a.data] 32)) m v) := Lib.hid fun Z hZ => by
    subst hZ
    have hS := h.set (M' := M1) 3 (.int .i64 M1.falls) (by rw [hM1]) (by rw [hM1]; rfl)
    have hb9 := (Below.refl (w.setCell ⟨m, 3, none⟩ (.int .i64 M1.falls)).heap.size (w.setCell ⟨m, 3, none⟩ (.int .i64 M1.falls))).alloc (Nat.le_refl _) (.cells #[.int .i64 a.k, .int .i64 a.n, .string a.name, .string a.dest, .string a.data] 32)
    refine ⟨hS.1.below hb9, ?_, hS.2.trans (MTurn.below hb9) (VNew.refl _ _)⟩
    have hz : (w.setCell ⟨m, 3, none⟩ (.int .i64 M1.falls)).heap.size = w.heap.size := by simp [World.setCell]
    have := heap_alloc_new (w.setCell ⟨m, 3, none⟩ (.int .i64 M1.falls)) (.cells #[.int .i64 a.k, .int .i64 a.n, .string a.name, .string a.dest, .string a.data] 32)
    rw [hz] at this
    exact this
  have HV : Hid (M1.falls = M.falls → MAt (w.alloc (.cells #[.int .i64 a.k, .int .i64 a.n, .string a.name, .string a.dest, .string a.data] 32)) B m v M1 ∧ ABox (w.alloc (.cells #[.int .i64 a.k, .int .i64 a.n, .string a.name, .string a.dest, .string a.data] 32)) w.heap.size a ∧ MTurn w (w.alloc (.cells #[.int .i64 a.k, .int .i64 a.n, .string a.name, .string a.dest, .string a.data] 32)) m v) := Lib.hid fun hZ => by
    have e : M1 = M := by rw [hM1] at hZ ⊢; show MS.mk _ _ _ _ = _; have hZ : (if 0 < M.falls then M.falls - 1 else M.falls) = M.falls := hZ; rw [hZ]
    rw [e]
    exact ⟨hA, hX, hT⟩
  have HFL : Hid (M1.falls = if 0 < M.falls then M.falls - 1 else M.falls) := Lib.hid (by rw [hM1])
  have HFI : Hid (M1.files = M.files ∧ M1.size = M.size) := Lib.hid (by rw [hM1]; exact ⟨rfl, rfl⟩)
  have hw0 : IntKind.i64.wrap (M.falls - 1) = M.falls - 1 := by rw [IntKind.wrap_i64]; omega
  clear hA hT hX h hd hM1 hf hr
  go_enter Try.func14, Try.ntmps14
  go_upto_if 41 with (fail)
  go_cut [4] (fun _ wx => Hid (MAt wx B m v M1 ∧ ABox wx w.heap.size a ∧ MTurn w wx m v))
  case first =>
    by_cases hp : 0 < M.falls
    · have HZ := Lib.hid (HU.out (M.falls - 1) (by rw [HFL.out, if_pos hp]))
      clear HU HV HFL HFI HM HM1
      go_wp2
      go_meet
      exact HZ
    · have HZ := Lib.hid (HV.out (by rw [HFL.out, if_neg hp]))
      clear HU HV HFL HFI HM HM1
      go_wp2
      go_meet
      exact HZ
  case rest =>
    have HC := hcut
    have hm1 := HC.out.1.lt.1
    have hb1 := HC.out.2.1.lt
    have HFD := Lib.hid (find_any HC.out.1 (by rw [HFI.out.1]; omega) a.name)
    obtain ⟨x0, x1, x2, x3, x4⟩ := HC.out.2.1.five
    clear hcut HU HV HFL hw0 hf0 c0 c1 c2 c3 f0 f1 f2 f3 hm
    go_wp2_with fail
    refine HFD.out.mono ?_
    rintro e w2 ⟨rfl, hb2⟩
    have hM2 := HC.out.1.below hb2
    have hX2 : ABox w2 w.heap.size a := (hb2.block _ hb1).trans HC.out.2.1
    have hT2 := HC.out.2.2.trans (MTurn.below hb2) (VNew.refl _ _)
    obtain ⟨x0, x1, x2, x3, x4⟩ := hX2.five
    have hm2 := hM2.lt.1
    have hb3 := hX2.lt
    clear hb2 hm1 hb1 HC HFD
    cases hat : isAt (bl a.name) M1.files with
    | false =>
      have HF : Hid (DoPost w w2 B m v (M1.tru a.name a.n) (.returned (.int .i64 5))) := Lib.hid (by unfold MS.tru; rw [if_pos hat]; exact ⟨rfl, ⟨v, hM2, VNew.refl _ _⟩, hT2⟩)
      clear hM2 hX2 hT2 HM HM1 HFI
      go_wp2
      go_ret
      exact HF.out
    | true =>
      obtain ⟨hnm, hilt, hfile, hset⟩ := at_file hat
      obtain ⟨va, vc, rfl, hvc⟩ := hM2.2.1.form
      obtain ⟨g, rfl, hg0, hg⟩ := hM2.2.1.blk (by omega)
      obtain ⟨d0, d1, d2⟩ := hM2.2.1.cell _ hilt
      rw [hfile hilt] at d0 d1 d2
      have k0 := World.ownsRow.frozenAt hM2.2.1 ((hd (bl a.name) M1.files).length * 3)
      have k1 := World.ownsRow.frozenAt hM2.2.1 ((hd (bl a.name) M1.files).length * 3 + 1)
      have k2 := World.ownsRow.frozenAt hM2.2.1 ((hd (bl a.name) M1.files).length * 3 + 2)
      have hrow := fun f j u hj he => hM2.2.1.set rfl _ j u f hilt hj he
      have hilen : (((hd (bl a.name) M1.files).length : Nat) : Int) < (M1.files.length : Int) := by omega
      obtain ⟨c0, c1, c2, c3⟩ := hM2.cells.1
      obtain ⟨fl0, hfl⟩ : ∃ fl0, fl0 = mfile (bl a.name) M1.files := ⟨_, rfl⟩
      rw [← hfl] at hnm d0 d1 d2
      have hne : g ≠ m := fun e => hM2.2.1.ne hM2.1 (by rw [e]; rfl)
      have hgx : g ≠ w.heap.size := hX2.ne hM2.2.1
      have hsz : (⟨fl0.data.toArray⟩ : ByteArray).size = fl0.data.length := by rw [← bl_length, bl_of]
      obtain ⟨dt, hdt⟩ : ∃ dt : ByteArray, dt = ⟨fl0.data.toArray⟩ := ⟨_, rfl⟩
      obtain ⟨nm, hnm2⟩ : ∃ nm : ByteArray, nm = ⟨fl0.name.toArray⟩ := ⟨_, rfl⟩
      rw [← hdt] at d1 hsz
      rw [← hnm2] at d0
      have HSZ := Lib.hid (And.intro hsz (And.intro hdt hnm2))
      clear hsz hdt hnm2
      have HFL := Lib.hid (And.intro hfl hfile)
      have HNM := Lib.hid hnm
      clear hfl hnm hfile
      have hbA : Below w2.heap.size w2 (w2.alloc (.cells #[.string nm, .string dt, .int .i64 fl0.safe] 45)) := (Below.refl _ w2).alloc (Nat.le_refl _) _
      by_cases hz0 : a.n < 0
      · have HF : Hid (DoPost w (w2.alloc (.cells #[.string nm, .string dt, .int .i64 fl0.safe] 45)) B m (.slice (some ⟨g, 0, none⟩) M1.files.length vc) (M1.tru a.name a.n) (.returned (.int .i64 1))) := Lib.hid (by
          unfold MS.tru
          rw [if_neg (by rw [hat]; simp), if_pos (.inl hz0)]
          exact DoPost.later ⟨rfl, ⟨_, hM2, VNew.refl _ _⟩, hT2⟩ hbA)
        generalize hgi : (hd (bl a.name) M1.files).length = i at hilt d0 d1 d2 k0 k1 k2 hilen ⊢
        clear hgi hM2 hX2 hT2 HM HM1 HFI hrow hset HFL HNM HSZ hilt hbA
        go_wp2
        go_ret
        exact HF.out
      · by_cases hz1 : (dt.size : Int) < a.n
        · have HF : Hid (DoPost w (w2.alloc (.cells #[.string nm, .string dt, .int .i64 fl0.safe] 45)) B m (.slice (some ⟨g, 0, none⟩) M1.files.length vc) (M1.tru a.name a.n) (.returned (.int .i64 1))) := Lib.hid (by
            unfold MS.tru
            rw [if_neg (by rw [hat]; simp), if_pos (.inr (by rw [← HFL.out.1, ← HSZ.out.1]; exact hz1))]
            exact DoPost.later ⟨rfl, ⟨_, hM2, VNew.refl _ _⟩, hT2⟩ hbA)
          generalize hgi : (hd (bl a.name) M1.files).length = i at hilt d0 d1 d2 k0 k1 k2 hilen ⊢
          clear hgi hM2 hX2 hT2 HM HM1 HFI hrow hset HFL HNM HSZ hilt hbA
          go_wp2
          go_ret
          exact HF.out
        · have hzq : ((a.n.toNat : Nat) : Int) = a.n := by omega
          generalize hqq : a.n.toNat = q at hzq
          have hz2 : a.n ≤ (dt.size : Int) := by omega
          have HF : Hid (DoPost w ((w2.setCell ⟨g, (hd (bl a.name) M1.files).length * 3 + 1, none⟩ (.string (dt.extract 0 q))).setCell ⟨g, (hd (bl a.name) M1.files).length * 3 + 2, none⟩ (.int .i64 (min (fl0.safe : Int) a.n))) B m (.slice (some ⟨g, 0, none⟩) M1.files.length vc) (M1.tru a.name a.n) (.returned (.int .i64 0))) := Lib.hid (by
            have hx : (⟨(fl0.data.take q).toArray⟩ : ByteArray) = dt.extract 0 q := bl_inj (by rw [bl_of, bl_extract, HSZ.out.2.1, bl_of]; simp)
            obtain ⟨h1, h2⟩ := store_out hM2 hT2 _ 1 (.string (dt.extract 0 q)) { fl0 with data := fl0.data.take q } hilt (by omega) (by rw [HFL.out.2 hilt, ← HFL.out.1]; rw [← hx]; rfl)
            have hilt2 : (hd (bl a.name) M1.files).length < (M1.files.set (hd (bl a.name) M1.files).length { fl0 with data := fl0.data.take q }).length := by rw [List.length_set]; exact hilt
            have h3 : MAt (w2.setCell ⟨g, (hd (bl a.name) M1.files).length * 3 + 1, none⟩ (.string (dt.extract 0 q))) B m (.slice (some ⟨g, 0, none⟩) ({ M1 with files := M1.files.set (hd (bl a.name) M1.files).length { fl0 with data := fl0.data.take q } } : MS).files.length vc) { M1 with files := M1.files.set (hd (bl a.name) M1.files).length { fl0 with data := fl0.data.take q } } := by
              show MAt _ B m (.slice (some ⟨g, 0, none⟩) (M1.files.set _ _).length vc) _
              rw [List.length_set]; exact h1
            have h4 : MTurn w (w2.setCell ⟨g, (hd (bl a.name) M1.files).length * 3 + 1, none⟩ (.string (dt.extract 0 q))) m (.slice (some ⟨g, 0, none⟩) ({ M1 with files := M1.files.set (hd (bl a.name) M1.files).length { fl0 with data := fl0.data.take q } } : MS).files.length vc) := h2
            obtain ⟨h5, h6⟩ := store_out h3 h4 _ 2 (.int .i64 (min (fl0.safe : Int) a.n)) { fl0 with data := fl0.data.take q, safe := min fl0.safe q } hilt2 (by omega) (by
              have e : min (fl0.safe : Int) a.n = ((min fl0.safe q : Nat) : Int) := by omega
              rw [e]; simp [fcells])
            have e9 : ({ M1 with files := M1.files.set (hd (bl a.name) M1.files).length { fl0 with data := fl0.data.take q } } : MS).files.length = M1.files.length := List.length_set
            rw [e9] at h5 h6
            have h5' : MAt ((w2.setCell ⟨g, (hd (bl a.name) M1.files).length * 3 + 1, none⟩ (.string (dt.extract 0 q))).setCell ⟨g, (hd (bl a.name) M1.files).length * 3 + 2, none⟩ (.int .i64 (min (fl0.safe : Int) a.n))) B m (.slice (some ⟨g, 0, none⟩) M1.files.length vc) { M1 with files := (M1.files.set (hd (bl a.name) M1.files).length { fl0 with data := fl0.data.take q }).set (hd (bl a.name) M1.files).length { fl0 with data := fl0.data.take q, safe := min fl0.safe q } } := h5
            rw [List.set_set, hset] at h5'
            unfold MS.tru
            rw [if_neg (by rw [hat]; simp), if_neg (by rw [← HFL.out.1, ← HSZ.out.1]; omega), ← HFL.out.1, hqq]
            exact ⟨rfl, ⟨_, h5', VNew.refl _ _⟩, h6⟩)
          generalize hgi : (hd (bl a.name) M1.files).length = i at hilt d0 d1 d2 k0 k1 k2 hilen HF ⊢
          have HQ := Lib.hid (And.intro hqq hzq)
          have hq1 : a.n.toNat = q := hqq
          clear hgi hM2 hX2 hT2 HM HM1 HFI hrow hset HFL HNM HSZ hilt hbA hqq hzq
          go_wp2
          go_region
          all_goals go_wp2
          all_goals go_region
          all_goals go_wp2
          all_goals (refine bodyPost_ret (v := .int .i64 0) (by simp [results, Try.results14, go_sem]) rfl ?_; exact HF.out.later (((Below.refl _ _).alloc (Nat.le_refl _) _).drew.drew))

end Go.Proofs.Ytkeopkhbcmeplaa
