/-
  val's decoder: a value.
-/
import Derived.Test.YtacphlceggbfcaaValNum
import Derived.Test.YtacphlceggbfcaaValRW
namespace Go.Proofs.Ytacphlceggbfcaa
open Go.RowKit

attribute [local irreducible] wpStill

def DecP (o : Int ⊕ (V × L8)) (b : Nat) (w : World) (e : Ending) (w' : World) : Prop :=
  (∃ (er : Int) (s : ByteArray) (bad : Bool) (k : Int) (y : Bool) (n : Int) (t : ByteArray) (a1 : Option Addr) (n1 c1 : Nat) (a2 : Option Addr) (n2 c2 : Nat), o = .inl er ∧
    e = .returned (.tuple #[.agg #[.int .i64 k, .bool y, .int .i64 n, .string t, .slice a1 n1 c1, .slice a2 n2 c2], .int .i64 er]) ∧ Goes w b s bad w') ∨
  (∃ (v : V) (r : L8) (lv fv : Value), o = .inr (v, r) ∧ e = .returned (.tuple #[.agg #[.int .i64 v.kind, .bool v.yes, .int .i64 v.num, .string v.text, lv, fv], .int .i64 0]) ∧
    v.At w' (fun x => w.heap.size ≤ x) lv fv ∧ Goes w b ⟨r.toArray⟩ false w')

theorem raw_one (b : Nat) (c : UInt8) (r : L8) (hr : r.length ≤ 100000) (w : World) (h : Rd w b ⟨(c :: r).toArray⟩ false) :
    Calls Try.prog 81 #[.pointer (some ⟨b, 0, none⟩), .int .i64 1] w fun e w' => e = .returned (.string ⟨#[c]⟩) ∧ Goes w b ⟨r.toArray⟩ false w' := by
  have hsz : (⟨(c :: r).toArray⟩ : ByteArray).size = r.length + 1 := rfl
  refine (raw_ok b _ false 1 (by omega) (by omega) (by omega) w h).mono fun e w' ⟨he, hg⟩ => ?_
  rw [extract_list] at he hg
  have e1 : ((c :: r).drop 1).take ((⟨(c :: r).toArray⟩ : ByteArray).size - 1) = r := List.take_of_length_le (by rw [hsz]; simp)
  rw [e1] at hg
  exact ⟨he, hg⟩

theorem at_plain {k : Int} {y : Bool} {n : Int} {t : ByteArray} (w : World) (S : Nat → Prop) : (V.mk k y n t [] []).At w S (.slice none 0 0) (.slice none 0 0) :=
  V.at_iff.2 ⟨⟨none, 0, rfl, Nat.le_refl _, by unfold maxLen; omega, .inl rfl⟩, ⟨none, 0, rfl, Nat.le_refl _, by unfold maxLen; omega, .inl rfl⟩⟩

/-- a block that is known whole -/
def Box (w : World) (g : Nat) (t : TypeId) (cs : Array Value) : Prop := w.heap[g]? = some (.cells cs t (0, 0))

theorem Box.cell {w : World} {g : Nat} {t : TypeId} {cs : Array Value} (h : Box w g t cs) (i : Nat) : w.cell? ⟨g, i, none⟩ = cs[i]? := cell_of_row w g i cs t (0, 0) h
theorem Box.free {w : World} {g : Nat} {t : TypeId} {cs : Array Value} (h : Box w g t cs) (i : Nat) : w.frozen? ⟨g, i, none⟩ = false := by
  unfold Box at h
  simp [World.frozen?, h]
theorem Box.lt {w : World} {g : Nat} {t : TypeId} {cs : Array Value} (h : Box w g t cs) : g < w.heap.size := by
  unfold Box at h
  exact (Array.getElem?_eq_some_iff.1 h).1
theorem Box.new (w : World) (t : TypeId) (cs : Array Value) : Box (w.alloc (.cells cs t)) w.heap.size t cs := heap_alloc_new w _
theorem Box.alloc {w : World} {g : Nat} {t : TypeId} {cs : Array Value} (h : Box w g t cs) (o : Obj) : Box (w.alloc o) g t cs := (Below.heap_alloc w o g h.lt).trans h
theorem Box.goes {w w' : World} {g b : Nat} {t : TypeId} {cs : Array Value} {s : ByteArray} {bad : Bool} (h : Box w g t cs) (hg : Goes w b s bad w') (hne : g ≠ b) : Box w' g t cs :=
  (hg.2.block g h.lt (by intro e; injection e with e; exact hne e)).trans h
theorem Box.setSame {w : World} {g : Nat} {t : TypeId} {cs : Array Value} (h : Box w g t cs) (i : Nat) (u : Value) : Box (w.setCell ⟨g, i, none⟩ u) g t (cs.setIfInBounds i u) := by
  unfold Box at h ⊢
  simp [World.setCell, Array.getElem?_modify, h]
theorem Box.setFar {w : World} {g : Nat} {t : TypeId} {cs : Array Value} (h : Box w g t cs) {p : Addr} (hp : g ≠ p.block) (u : Value) : Box (w.setCell p u) g t cs := (Below.heap_setCell w p u g hp).trans h

theorem Goes.set {w w' : World} {b : Nat} {s : ByteArray} {bad : Bool} (h : Goes w b s bad w') (hb : b < w.heap.size) {p : Addr} (hp : w.heap.size ≤ p.block) (u : Value) : Goes w b s bad (w'.setCell p u) := by
  refine ⟨(Below.heap_setCell w' p u b (by omega)).trans h.1, ⟨h.2.os, h.2.tape, h.2.output, by simpa [World.setCell] using h.2.size, fun k hk hne => (Below.heap_setCell w' p u k (by omega)).trans (h.2.block k hk hne)⟩⟩

theorem Goes.alloc {w w' : World} {b : Nat} {s : ByteArray} {bad : Bool} (h : Goes w b s bad w') (o : Obj) : Goes w b s bad (w'.alloc o) := h.below ((Below.refl _ w').alloc (Nat.le_refl _) o)
theorem Goes.drew {w w' : World} {b : Nat} {s : ByteArray} {bad : Bool} (h : Goes w b s bad w') : Goes w b s bad w'.drew := ⟨h.1, ⟨h.2.os, h.2.tape, h.2.output, h.2.size, h.2.block⟩⟩

/-- the cells of a value, and that they may be written -/
theorem Box.six {w : World} {g : Nat} {c0 c1 c2 c3 c4 c5 : Value} {t : TypeId} (h : Box w g t #[c0, c1, c2, c3, c4, c5]) :
    (w.cell? ⟨g, 0, none⟩ = some c0 ∧ w.cell? ⟨g, 1, none⟩ = some c1 ∧ w.cell? ⟨g, 2, none⟩ = some c2 ∧ w.cell? ⟨g, 3, none⟩ = some c3 ∧ w.cell? ⟨g, 4, none⟩ = some c4 ∧ w.cell? ⟨g, 5, none⟩ = some c5) ∧
    (w.frozen? ⟨g, 0, none⟩ = false ∧ w.frozen? ⟨g, 1, none⟩ = false ∧ w.frozen? ⟨g, 2, none⟩ = false ∧ w.frozen? ⟨g, 3, none⟩ = false ∧ w.frozen? ⟨g, 4, none⟩ = false ∧ w.frozen? ⟨g, 5, none⟩ = false) :=
  ⟨⟨h.cell 0, h.cell 1, h.cell 2, h.cell 3, h.cell 4, h.cell 5⟩, h.free 0, h.free 1, h.free 2, h.free 3, h.free 4, h.free 5⟩

theorem err_flip (b : Nat) (s : ByteArray) (w : World) (h : Rd w b s false) :
    Calls Try.prog 85 #[.pointer (some ⟨b, 0, none⟩)] w fun e w' => e = .returned (.int .i64 0) ∧ w' = w := (err_good b s w h).mono fun _ _ ⟨a, c⟩ => ⟨a, c.symm⟩
theorem err_flip' (b : Nat) (s : ByteArray) (w : World) (h : Rd w b s true) :
    Calls Try.prog 85 #[.pointer (some ⟨b, 0, none⟩)] w fun e w' => e = .returned (.int .i64 2) ∧ w' = w := (err_bad b s w h).mono fun _ _ ⟨a, c⟩ => ⟨a, c.symm⟩

set_option maxHeartbeats 4000000 in
set_option maxRecDepth 100000 in
theorem value_deep (b : Nat) (l : L8) (w : World) (h : Rd w b ⟨l.toArray⟩ false) :
    Calls Try.prog 54 #[.agg #[.pointer (some ⟨b, 0, none⟩)], .int .i64 32] w (DecP (decV 0 l) b w) := by
  have hg : Goes w b ⟨l.toArray⟩ false ((w.alloc (.cells #[.pointer (some ⟨b, 0, none⟩)] 85)).alloc (.cells #[.int .i64 0, .bool false, .int .i64 0, .string ⟨#[]⟩, .slice none 0 0, .slice none 0 0] 26)) :=
    (Goes.refl h).below (((Below.refl _ w).alloc (Nat.le_refl _) _).alloc (by simp) _)
  go_enter Try.func54, Try.ntmps54
  go_wp2_with fail
  refine bodyPost_ret (v := .tuple #[.agg #[.int .i64 0, .bool false, .int .i64 0, .string ⟨#[]⟩, .slice none 0 0, .slice none 0 0], .int .i64 3]) (by simp [results, Try.results54, go_sem]) rfl ?_
  exact .inl ⟨3, _, _, _, _, _, _, _, _, _, _, _, _, rfl, rfl, hg⟩

set_option maxHeartbeats 4000000 in
set_option maxRecDepth 100000 in
theorem value_null (d o : Nat) (hd : o ≤ 31) (b : Nat) (r : L8) (hr : r.length ≤ 5000) (w : World) (h : Rd w b ⟨(0 :: r).toArray⟩ false) :
    Calls Try.prog 54 #[.agg #[.pointer (some ⟨b, 0, none⟩)], .int .i64 o] w (DecP (decV (d + 1) (0 :: r)) b w) := by
  have hbl := h.lt
  have hg0 : Goes w b ⟨(0 :: r).toArray⟩ false ((w.alloc (.cells #[.pointer (some ⟨b, 0, none⟩)] 85)).alloc (.cells #[.int .i64 0, .bool false, .int .i64 0, .string ⟨#[]⟩, .slice none 0 0, .slice none 0 0] 26)) :=
    (Goes.refl h).below (((Below.refl _ w).alloc (Nat.le_refl _) _).alloc (by simp) _)
  have hraw := raw_one b 0 r (by omega) _ hg0.1
  have ho : ((o : Int) == 32) = false := by rw [beq_eq_false_iff_ne]; omega
  have hc0 : ∀ h, ((({ data := #[0] } : ByteArray)[0]'h).toNat : Int) = 0 := fun _ => rfl
  go_enter Try.func54, Try.ntmps54
  go_wp2_with fail
  refine hraw.mono ?_
  rintro e w1 ⟨rfl, hg1⟩
  have hB1 : Box w1 w.heap.size 85 #[.pointer (some ⟨b, 0, none⟩)] := (((Box.new w 85 #[.pointer (some ⟨b, 0, none⟩)]).alloc _).goes hg1 (by omega))
  have hB2 : Box w1 (w.heap.size + 1) 26 #[.int .i64 0, .bool false, .int .i64 0, .string ⟨#[]⟩, .slice none 0 0, .slice none 0 0] := by
    have := Box.new (w.alloc (.cells #[.pointer (some ⟨b, 0, none⟩)] 85)) 26 #[.int .i64 0, .bool false, .int .i64 0, .string ⟨#[]⟩, .slice none 0 0, .slice none 0 0]
    rw [show (w.alloc (.cells #[.pointer (some ⟨b, 0, none⟩)] 85)).heap.size = w.heap.size + 1 by simp] at this
    exact this.goes hg1 (by omega)
  have hV := Box.new w1 26 #[.int .i64 0, .bool false, .int .i64 0, .string ⟨#[]⟩, .slice none 0 0, .slice none 0 0]
  have hP := hB1.alloc (.cells #[.int .i64 0, .bool false, .int .i64 0, .string ⟨#[]⟩, .slice none 0 0, .slice none 0 0] 26)
  have hO := hB2.alloc (.cells #[.int .i64 0, .bool false, .int .i64 0, .string ⟨#[]⟩, .slice none 0 0, .slice none 0 0] 26)
  have hG := (hg0.trans hg1).alloc (.cells #[.int .i64 0, .bool false, .int .i64 0, .string ⟨#[]⟩, .slice none 0 0, .slice none 0 0] 26)
  have hE := err_flip b _ _ hG.drew.1
  obtain ⟨⟨v0, v1, v2, v3, v4, v5⟩, _⟩ := hV.six
  obtain ⟨⟨o0, o1, o2, o3, o4, o5⟩, f0, f1, f2, f3, f4, f5⟩ := hO.six
  have p0 := hP.cell 0
  simp at p0
  clear hraw hg0 hB1 hB2
  go_wp2_with fail
  refine wp_region_still_tail 4 (by kernel_rfl) (by kernel_rfl) ?_
  change wpStill _ _ (World.drew _) (fun a' => wpList _ _ _ _ a' (World.drew _)) _ _
  simp only [List.take_succ_cons, List.take_zero, List.drop_succ_cons, List.drop_zero]
  still_step
  still_step
  still_step
  refine wpStill_step (fun K hK => ?_)
  go_simp
  refine ⟨_, hE, hK _ ?_⟩
  clear hK K
  refine wpStill_nil ?_
  go_wp2
  have hF := (((((hO.setSame 0 (.int .i64 0)).setSame 1 (.bool false)).setSame 2 (.int .i64 0)).setSame 3 (.string ⟨#[]⟩)).setSame 4 (.slice none 0 0)).setSame 5 (.slice none 0 0)
  obtain ⟨⟨k0, k1, k2, k3, k4, k5⟩, _⟩ := Box.six (c0 := .int .i64 0) (c1 := .bool false) (c2 := .int .i64 0) (c3 := .string ⟨#[]⟩) (c4 := .slice none 0 0) (c5 := .slice none 0 0) hF
  refine bodyPost_ret (v := .tuple #[.agg #[.int .i64 0, .bool false, .int .i64 0, .string ⟨#[]⟩, .slice none 0 0, .slice none 0 0], .int .i64 0]) (by simp [results, Try.results54, go_sem, k0, k1, k2, k3, k4, k5]) rfl ?_
  exact .inr ⟨V.null, r, _, _, decV_null d r, rfl, at_plain _ _, ((((((hG.set hbl (by simp) _).set hbl (by simp) _).set hbl (by simp) _).set hbl (by simp) _).set hbl (by simp) _).set hbl (by simp) _).drew⟩

end Go.Proofs.Ytacphlceggbfcaa
