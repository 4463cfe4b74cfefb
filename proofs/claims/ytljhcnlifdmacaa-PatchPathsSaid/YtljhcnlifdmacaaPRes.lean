/-
  What Apply tells, in one form; Get of a map, its value in new blocks.
-/
import Derived.Test.YtljhcnlifdmacaaPBB
namespace Go.Proofs.Ytljhcnlifdmacaa
open Go.RowKit

/-- the value; null where it failed -/
def resV : Except Int V → V
  | .error _ => V.null
  | .ok y => y
/-- the error's number -/
def resC : Except Int V → Int
  | .error c => c
  | .ok _ => 0

theorem res_any {r : Except Int V} {w w' : World} {e : Ending} (h : ResP r (fun _ => False) w e w') : ∃ ya yc yb yd, e = .returned (.tuple #[.agg #[.int .i64 ((resV r)).kind, .bool ((resV r)).yes, .int .i64 ((resV r)).num, .string ((resV r)).text, .slice ya ((resV r)).list.length yc, .slice yb ((resV r)).fields.length yd], .int .i64 (resC r)]) ∧ (resV r).At w' (fun q => w.heap.size ≤ q) (.slice ya (resV r).list.length yc) (.slice yb (resV r).fields.length yd) ∧ Below w.heap.size w w' := by
  cases r with
  | error c =>
    obtain ⟨hb, _, rfl⟩ := h
    exact ⟨none, 0, none, 0, rfl, none_at _ _ V.null rfl rfl, hb⟩
  | ok y =>
    obtain ⟨hb, a, c, a', c', rfl, hat⟩ := h
    exact ⟨a, c, a', c', rfl, hat.wider (fun q hq => hq.resolve_left id), hb⟩

/-- Get of a map: what it gives lies in new blocks -/
theorem get_w {W : World} {kf : List Fd} (kk : Int) (hkk : kk = 5) (y : Bool) (m : Int) (t : ByteArray) (ax : Option Addr) (lx cx : Nat) {ma : Option Addr} {n mc : Nat} (hfa : FAt W All kf (.slice ma n mc)) (hsm : ∀ p ∈ kf, p.2.sm) (hlen : kf.length ≤ 100000) (nm : ByteArray) :
    Calls Try.prog 14 #[.agg #[.int .i64 kk, .bool y, .int .i64 m, .string t, .slice ax lx cx, .slice ma n mc], .string nm] W fun e w' =>
      ∃ ga gc gb gd, e = .returned (.tuple #[.agg #[.int .i64 ((valF kf nm)).kind, .bool ((valF kf nm)).yes, .int .i64 ((valF kf nm)).num, .string ((valF kf nm)).text, .slice ga ((valF kf nm)).list.length gc, .slice gb ((valF kf nm)).fields.length gd], .bool (isF kf nm)]) ∧ (valF kf nm).At w' (fun q => W.heap.size ≤ q) (.slice ga (valF kf nm).list.length gc) (.slice gb (valF kf nm).fields.length gd) ∧ Below W.heap.size W w' := by
  subst hkk
  refine (get_map y m t ax lx cx kf nm (.slice ma n mc) W hsm hlen hfa).mono ?_
  rintro e w' ⟨hb, h⟩
  rcases h with ⟨x, lv, fv, hg, rfl, hat⟩ | ⟨hg, rfl⟩
  · obtain ⟨⟨ga, gc, rfl⟩, ⟨gb, gd, rfl⟩, _, _⟩ := hat.is.len
    have e1 : valF kf nm = x := by unfold valF; rw [hg]; rfl
    rw [e1]
    exact ⟨ga, gc, gb, gd, by unfold isF; rw [hg]; rfl, hat, hb⟩
  · have e1 : valF kf nm = V.null := by unfold valF; rw [hg]; rfl
    rw [e1]
    exact ⟨none, 0, none, 0, by unfold isF; rw [hg]; rfl, none_at _ _ V.null rfl rfl, hb⟩

/-- the zero box that an alloc makes, and what it is behind a call and a store -/
theorem put_box {w8 : World} {y : V} {bx N : Nat} {ya : Option Addr} {yc : Nat} {yb : Option Addr} {yd : Nat} (hz : Box w8 bx 26 #[.int .i64 0, .bool false, .int .i64 0, .string ⟨#[]⟩, .slice none 0 0, .slice none 0 0]) (hlt : bx < N) (hy : y.At w8 (fun q => N ≤ q) (.slice ya y.list.length yc) (.slice yb y.fields.length yd)) :
    Box (sets w8 bx 0 [.int .i64 y.kind, .bool y.yes, .int .i64 y.num, .string y.text, .slice ya y.list.length yc, .slice yb y.fields.length yd]) bx 26 #[.int .i64 y.kind, .bool y.yes, .int .i64 y.num, .string y.text, .slice ya y.list.length yc, .slice yb y.fields.length yd] ∧ y.At (sets w8 bx 0 [.int .i64 y.kind, .bool y.yes, .int .i64 y.num, .string y.text, .slice ya y.list.length yc, .slice yb y.fields.length yd]) (fun q => q ≠ bx) (.slice ya y.list.length yc) (.slice yb y.fields.length yd) :=
  ⟨box_sets6 hz _ _ _ _ _ _, at_ends hy (fun q hq => ⟨by omega, by omega⟩) _⟩

theorem put_new {w8 : World} {y : V} {N : Nat} {ya : Option Addr} {yc : Nat} {yb : Option Addr} {yd : Nat} (hy : y.At w8 (fun q => N ≤ q) (.slice ya y.list.length yc) (.slice yb y.fields.length yd)) :
    Box (w8.alloc (.cells #[.int .i64 y.kind, .bool y.yes, .int .i64 y.num, .string y.text, .slice ya y.list.length yc, .slice yb y.fields.length yd] 26)) w8.heap.size 26 #[.int .i64 y.kind, .bool y.yes, .int .i64 y.num, .string y.text, .slice ya y.list.length yc, .slice yb y.fields.length yd] ∧ y.At (w8.alloc (.cells #[.int .i64 y.kind, .bool y.yes, .int .i64 y.num, .string y.text, .slice ya y.list.length yc, .slice yb y.fields.length yd] 26)) (fun q => q ≠ w8.heap.size) (.slice ya y.list.length yc) (.slice yb y.fields.length yd) := by
  have hA : Below w8.heap.size w8 (w8.alloc (.cells #[.int .i64 y.kind, .bool y.yes, .int .i64 y.num, .string y.text, .slice ya y.list.length yc, .slice yb y.fields.length yd] 26)) := (Below.refl _ w8).alloc (Nat.le_refl _) _
  exact ⟨Box.new w8 _ _, V.At.move (fun q _ hl => ⟨Nat.ne_of_lt hl, hA.block q hl⟩) hA.size _ (Nat.le_refl _) hy⟩

end Go.Proofs.Ytljhcnlifdmacaa
