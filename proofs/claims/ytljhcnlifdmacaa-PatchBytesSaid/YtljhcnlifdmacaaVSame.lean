/-
  mailbaglaw02.same, of a value and itself, wherever the two lie.
-/
import Derived.Test.YtljhcnlifdmacaaValHead
namespace Go.Proofs.Ytljhcnlifdmacaa
open Go.RowKit

attribute [local irreducible] wpStill

theorem cell4 {w w' : World} {b : Nat} {c0 c1 c2 c3 : Value} (hb : Below w.heap.size w w') (hlt : b + 1 < w.heap.size) (h0 : w.cell? ⟨b, 4, none⟩ = some c0) (h1 : w.cell? ⟨b + 1, 4, none⟩ = some c1) (h2 : w.cell? ⟨b, 5, none⟩ = some c2) (h3 : w.cell? ⟨b + 1, 5, none⟩ = some c3) :
    w'.cell? ⟨b, 4, none⟩ = some c0 ∧ w'.cell? ⟨b + 1, 4, none⟩ = some c1 ∧ w'.cell? ⟨b, 5, none⟩ = some c2 ∧ w'.cell? ⟨b + 1, 5, none⟩ = some c3 :=
  ⟨(hb.cell (p := ⟨b, 4, none⟩) (by show b < _; omega)).trans h0, (hb.cell (p := ⟨b + 1, 4, none⟩) hlt).trans h1, (hb.cell (p := ⟨b, 5, none⟩) (by show b < _; omega)).trans h2, (hb.cell (p := ⟨b + 1, 5, none⟩) hlt).trans h3⟩

def SameOK (N : Nat) : Prop := ∀ (v : V) (lv fv lo fo : Value) (w : World), v.dep ≤ N → v.Is w lv fv → v.Is w lo fo →
  Calls Try.prog 13 #[.agg #[.int .i64 v.kind, .bool v.yes, .int .i64 v.num, .string v.text, lv, fv], .agg #[.int .i64 v.kind, .bool v.yes, .int .i64 v.num, .string v.text, lo, fo]] w fun e w' => e = .returned (.bool true) ∧ Below w.heap.size w w'

set_option maxHeartbeats 4000000 in
set_option maxRecDepth 100000 in
theorem same_step (N : Nat) (ih : SameOK N) : SameOK (N + 1) := by
  intro v lv fv lo fo w hdep his hos
  obtain ⟨⟨a, c, rfl⟩, ⟨a', c', rfl⟩, hLb, hFb⟩ := his.len
  obtain ⟨⟨g, d, rfl⟩, ⟨g', d', rfl⟩, _, _⟩ := hos.len
  obtain ⟨k, y, n, t, l, f⟩ := v
  have hdl : ∀ x ∈ l, x.dep ≤ N := fun x hx => by have := dep_list (v := .mk k y n t l f) hx; omega
  have hdf : ∀ p ∈ f, p.2.dep ≤ N := fun p hp => by have := dep_fields (v := .mk k y n t l f) hp; omega
  have HDL := Lib.hid hdl
  have HDF := Lib.hid hdf
  clear hdl hdf hdep
  simp only [V.kind, V.yes, V.num, V.text, V.list, V.fields] at *
  have hb0 := two_boxes w #[.int .i64 k, .bool y, .int .i64 n, .string t, .slice a l.length c, .slice a' f.length c'] #[.int .i64 k, .bool y, .int .i64 n, .string t, .slice g l.length d, .slice g' f.length d'] 26
  go_enter Try.func13, Try.ntmps13
  go_wp2_with fail
  go_loopw [54] (fun i wr => ∃ j : Nat, j ≤ l.length ∧ i = .int .i64 j ∧ Below w.heap.size w wr ∧ (wr.cell? ⟨w.heap.size, 4, none⟩ = some (.slice a l.length c) ∧ wr.cell? ⟨w.heap.size + 1, 4, none⟩ = some (.slice g l.length d) ∧ wr.cell? ⟨w.heap.size, 5, none⟩ = some (.slice a' f.length c') ∧ wr.cell? ⟨w.heap.size + 1, 5, none⟩ = some (.slice g' f.length d')) ∧ w.heap.size + 1 < wr.heap.size) (fun i _ => l.length - (intOf i).toNat)
  case atStart =>
    refine ⟨0, Nat.zero_le _, rfl, hb0, ⟨?_, ?_, ?_, ?_⟩, by simp⟩ <;> simp
  case round =>
    obtain ⟨j, hj, rfl, hbr, ⟨hc0, hc1, hc2, hc3⟩, hlt0⟩ := hrel
    have hzr := hbr.size
    by_cases hjl : j < l.length
    · obtain ⟨b, off, cc, lv', fv', e1, hbl, hin, hel⟩ := (his.below hbr).elem (i := j) hjl
      obtain ⟨b', off', cc', lw', fw', e2, hbl', hin', hel'⟩ := (hos.below hbr).elem (i := j) hjl
      injection e1 with e1 e3 e4
      injection e2 with e2 e5 e6
      clear e3 e5
      subst e1 e2 e4 e6
      have hxd := HDL.out _ (List.getElem_mem hjl)
      obtain ⟨q0, q1, q2, q3, q4, q5⟩ := hin.six
      obtain ⟨p0, p1, p2, p3, p4, p5⟩ := hin'.six
      simp only [V.list] at q0 q1 q2 q3 q4 q5 p0 p1 p2 p3 p4 p5 hel hel'
      generalize l[j] = x at q0 q1 q2 q3 q4 q5 p0 p1 p2 p3 p4 p5 hel hel' hxd
      obtain ⟨⟨ax, cx, rfl⟩, ⟨ax', cx', rfl⟩, _, _⟩ := hel.len
      obtain ⟨⟨bx, dx, rfl⟩, ⟨bx', dx', rfl⟩, _, _⟩ := hel'.len
      have hjl' : (j : Int) < (l.length : Int) := by omega
      have hj0 : (0 : Int) ≤ (j : Int) := by omega
      have hcall := ih x _ _ _ _ wr.drew hxd (V.At.drew hel) (V.At.drew hel')
      have HC := Lib.hid hcall
      clear hin hel hin' hel' hcall
      go_wp2_with fail
      refine wp_region_still_tail 10 (by kernel_rfl) (by kernel_rfl) ?_
      change wpStill _ _ (World.drew _) (fun a' => wpList _ _ _ _ a' (World.drew _)) _ _
      simp only [List.take_succ_cons, List.take_zero, List.drop_succ_cons, List.drop_zero]
      repeat still_step
      refine wpStill_nil ?_
      have hcall2 := HC.out
      go_wp2_with fail
      refine hcall2.mono ?_
      rintro e w2 ⟨rfl, hb2'⟩
      have hb21 : Below wr.heap.size wr w2 := (Below.refl _ wr).drew.trans hb2'
      have hb2 := hbr.trans (hb21.mono hzr)
      have hc' := cell4 hb21 hlt0 hc0 hc1 hc2 hc3
      have hlt2 : w.heap.size + 1 < w2.heap.size := Nat.lt_of_lt_of_le hlt0 hb21.size
      clear hcall2 hb2' hb21
      go_wp2
      go_roundw
      case rel => exact ⟨j + 1, by omega, by go_num, hb2, hc', hlt2⟩
      case measure => simp [intOf]; omega
    · have hge : ¬ (j : Int) < (l.length : Int) := by omega
      clear hjl
      go_wp2
      go_loopw [73] (fun i wr => ∃ j : Nat, j ≤ f.length ∧ i = .int .i64 j ∧ Below w.heap.size w wr ∧ (wr.cell? ⟨w.heap.size, 4, none⟩ = some (.slice a l.length c) ∧ wr.cell? ⟨w.heap.size + 1, 4, none⟩ = some (.slice g l.length d) ∧ wr.cell? ⟨w.heap.size, 5, none⟩ = some (.slice a' f.length c') ∧ wr.cell? ⟨w.heap.size + 1, 5, none⟩ = some (.slice g' f.length d')) ∧ w.heap.size + 1 < wr.heap.size) (fun i _ => f.length - (intOf i).toNat)
      case atStart => exact ⟨0, Nat.zero_le _, rfl, hbr, ⟨hc0, hc1, hc2, hc3⟩, hlt0⟩
      case round =>
        clear hbr hzr hge hj hlt0 hc0 hc1 hc2 hc3
        obtain ⟨j, hj, rfl, hbr, ⟨hc0, hc1, hc2, hc3⟩, hlt0⟩ := hrel
        have hzr := hbr.size
        by_cases hjl : j < f.length
        · obtain ⟨b, off, cc, lv', fv', e1, hbl, hin, hel⟩ := (his.below hbr).field (i := j) hjl
          obtain ⟨b', off', cc', lw', fw', e2, hbl', hin', hel'⟩ := (hos.below hbr).field (i := j) hjl
          injection e1 with e1 e3 e4
          injection e2 with e2 e5 e6
          clear e3 e5
          subst e1 e2 e4 e6
          have hxd := HDF.out _ (List.getElem_mem hjl)
          simp only [V.fields] at hin hin' hel hel'
          obtain ⟨q0, q1, q2, q3, q4, q5, q6⟩ := hin.seven
          obtain ⟨p0, p1, p2, p3, p4, p5, p6⟩ := hin'.seven
          generalize (f[j]).1 = nm at q0 p0
          generalize (f[j]).2 = x at q1 q2 q3 q4 q5 q6 p1 p2 p3 p4 p5 p6 hel hel' hxd
          obtain ⟨⟨ax, cx, rfl⟩, ⟨ax', cx', rfl⟩, _, _⟩ := hel.len
          obtain ⟨⟨bx, dx, rfl⟩, ⟨bx', dx', rfl⟩, _, _⟩ := hel'.len
          have hjl' : (j : Int) < (f.length : Int) := by omega
          have hj0 : (0 : Int) ≤ (j : Int) := by omega
          have hcall := ih x _ _ _ _ wr.drew hxd (V.At.drew hel) (V.At.drew hel')
          have HC := Lib.hid hcall
          clear hin hel hin' hel' hcall
          go_wp2_with fail
          refine wp_region_still_tail 26 (by kernel_rfl) (by kernel_rfl) ?_
          change wpStill _ _ (World.drew _) (fun a' => wpList _ _ _ _ a' (World.drew _)) _ _
          simp only [List.take_succ_cons, List.take_zero, List.drop_succ_cons, List.drop_zero]
          repeat still_step
          refine wpStill_nil ?_
          have hcall2 := HC.out
          go_wp2_with fail
          refine hcall2.mono ?_
          rintro e w2 ⟨rfl, hb2'⟩
          have hb21 : Below wr.heap.size wr w2 := (Below.refl _ wr).drew.trans hb2'
          have hb2 := hbr.trans (hb21.mono hzr)
          have hc' := cell4 hb21 hlt0 hc0 hc1 hc2 hc3
          have hlt2 : w.heap.size + 1 < w2.heap.size := Nat.lt_of_lt_of_le hlt0 hb21.size
          clear hcall2 hb2' hb21
          go_wp2
          go_roundw
          case rel => exact ⟨j + 1, by omega, by go_num, hb2, hc', hlt2⟩
          case measure => simp [intOf]; omega
        · have hge : ¬ (j : Int) < (f.length : Int) := by omega
          clear hjl
          go_wp2
          go_ret
          exact ⟨rfl, hbr⟩

theorem same_all : ∀ N, SameOK N
  | 0 => fun v lv fv lo fo w hd _ _ => by
    cases v
    rw [V.dep] at hd
    omega
  | N + 1 => same_step N (same_all N)

theorem sameEq_any (v : V) (lv fv lo fo : Value) (w : World) (h : v.Is w lv fv) (h2 : v.Is w lo fo) :
    Calls Try.prog 13 #[.agg #[.int .i64 v.kind, .bool v.yes, .int .i64 v.num, .string v.text, lv, fv], .agg #[.int .i64 v.kind, .bool v.yes, .int .i64 v.num, .string v.text, lo, fo]] w fun e w' => e = .returned (.bool true) ∧ Below w.heap.size w w' :=
  same_all v.dep v lv fv lo fo w (Nat.le_refl _) h h2

end Go.Proofs.Ytljhcnlifdmacaa
