/-
  The law's parts, as they lie in memory, and the law's own way of laying them (lay).
-/
import Derived.Test.YtecejmefnbejhaaRef
import Derived.Test.YtecejmefnbejhaaLay
import Derived.Deep.RegionHeld3
namespace Go.Proofs.Ytecejmefnbejhaa
open Go.RowKit

theorem bytes_of (s : ByteArray) : s = ⟨s.data.toList.toArray⟩ := by cases s; simp

/-- Something that is laid. -/
structure Part where
  kind : Int
  n : Int
  s : ByteArray
  yes : Bool

/-- The four cells from 'off' on hold a part. -/
def PartIn (w : World) (b off : Nat) (p : Part) : Prop :=
  w.cell? ⟨b, off, none⟩ = some (.int .i64 p.kind) ∧ w.cell? ⟨b, off + 1, none⟩ = some (.int .i64 p.n) ∧ w.cell? ⟨b, off + 2, none⟩ = some (.string p.s) ∧ w.cell? ⟨b, off + 3, none⟩ = some (.bool p.yes)

/-- what a part is laid as -/
def Part.oct (p : Part) : List UInt8 := if p.kind % 4 = 0 then octN p.n.toNat else if p.kind % 4 = 1 then octT p.s else octF p.yes

def layOf (ps : List Part) : List UInt8 := ps.flatMap Part.oct

theorem layOf_take (ps : List Part) (k : Nat) (h : k < ps.length) : layOf (ps.take (k + 1)) = layOf (ps.take k) ++ ps[k].oct := by
  unfold layOf
  rw [List.take_succ_eq_append_getElem h, List.flatMap_append]
  simp

/-- The parts lie one behind the other from 'off' on; each number is an int's. -/
def PartsAt (w : World) (b off : Nat) (ps : List Part) : Prop := ∀ i (h : i < ps.length), PartIn w b (off + i * 4) ps[i] ∧ ps[i].n ≤ 9223372036854775807

set_option maxHeartbeats 800000 in
theorem lay_any (b off : Nat) (ps : List Part) (cap : Nat) (w : World) (hbw : b < w.heap.size) (hps : PartsAt w b off ps) (hlen : (layOf ps).length ≤ 1000000) (hpl : ps.length ≤ 1000) :
    Calls Try.prog 15 #[.slice (some ⟨b, off, none⟩) ps.length cap] w fun e w' => e = .returned (.string ⟨(layOf ps).toArray⟩) ∧ Below w.heap.size w w' := by
  go_enter Try.func15, Try.ntmps15
  go_wp2
  go_loopw [3, 8] (fun out c wr => ∃ k : Nat, k ≤ ps.length ∧ c = .int .i64 k ∧ out = .string ⟨(layOf (ps.take k)).toArray⟩ ∧ Below w.heap.size w wr) (fun _ c _ => ps.length - (intOf c).toNat)
  case atStart => exact ⟨0, Nat.zero_le _, rfl, rfl, Below.refl _ _⟩
  case round =>
    obtain ⟨k, hk, rfl, rfl, hb⟩ := hrel
    have hz := hb.size
    by_cases hlt : k < ps.length
    · obtain ⟨⟨hc0, hc1, hc2, hc3⟩, hn⟩ := hps k hlt
      obtain ⟨p, hp⟩ : ∃ p, p = ps[k] := ⟨_, rfl⟩
      rw [← hp] at hc0 hc1 hc2 hc3 hn
      have htk := layOf_take ps k hlt
      rw [← hp] at htk
      have HT := Lib.hid htk
      clear htk hp
      have d0 := (hb.cell (p := ⟨b, off + k * 4, none⟩) hbw).trans hc0
      have d1 := (hb.cell (p := ⟨b, off + k * 4 + 1, none⟩) hbw).trans hc1
      have d2 := (hb.cell (p := ⟨b, off + k * 4 + 2, none⟩) hbw).trans hc2
      have d3 := (hb.cell (p := ⟨b, off + k * 4 + 3, none⟩) hbw).trans hc3
      clear hc0 hc1 hc2 hc3 hps
      have hm := and_mask2 p.kind
      have htl : (layOf (ps.take k)).length + p.oct.length ≤ 1000000 := by
        have h1 := congrArg List.length HT.out
        have h2 : (layOf (ps.take (k + 1))).length ≤ (layOf ps).length := by
          have h3 : layOf ps = layOf (ps.take (k + 1)) ++ layOf (ps.drop (k + 1)) := by
            unfold layOf
            rw [← List.flatMap_append, List.take_append_drop]
          rw [h3, List.length_append]; omega
        rw [List.length_append] at h1
        omega
      by_cases h0 : p.kind % 4 = 0
      · rw [h0] at hm
        have ho : p.oct = octN p.n.toNat := by unfold Part.oct; rw [if_pos h0]
        rw [ho] at htl
        have HO := Lib.hid ho
        clear h0 ho
        go_wp2_with (go_at_call 25; refine (ref_any _ hn _).mono ?_; rintro e w2 ⟨rfl, hb2⟩)
        go_roundw
        case rel =>
          refine ⟨k + 1, by omega, by go_num, ?_, (hb.alloc hz _).trans (hb2.mono (by simp; omega))⟩
          rw [HT.out, HO.out, cat_list]
        case measure => simp [intOf]; omega
      · by_cases h1 : p.kind % 4 = 1
        · rw [h1] at hm
          have ho : p.oct = octT p.s := by unfold Part.oct; rw [if_neg h0, if_pos h1]
          rw [ho] at htl
          have hls : (octN p.s.size).length + p.s.size ≤ 1000000 := by
            unfold octT at htl
            rw [List.length_append] at htl
            have : p.s.data.toList.length = p.s.size := by simp
            omega
          have HO := Lib.hid ho
          have HH := Lib.hid htl
          clear h0 h1 ho
          have hsz : (p.s.size : Int) ≤ 1000000 := by omega
          have hA : ∀ W : World, (Op.stringOp .add ⟨(layOf (ps.take k)).toArray⟩ ⟨(octN p.s.size).toArray⟩).run Try.prog W = .ok (.string ⟨(layOf (ps.take k) ++ octN p.s.size).toArray⟩) W := fun W => by
            have h := run_string_add_sum (P := Try.prog) W ⟨(layOf (ps.take k)).toArray⟩ ⟨(octN p.s.size).toArray⟩ (by show (layOf (ps.take k)).length + (octN p.s.size).length ≤ _; omega)
            rw [cat_list] at h
            exact h
          have hB : ∀ W : World, (Op.stringOp .add ⟨(layOf (ps.take k) ++ octN p.s.size).toArray⟩ p.s).run Try.prog W = .ok (.string (⟨(layOf (ps.take k) ++ octN p.s.size).toArray⟩ ++ p.s)) W := fun W =>
            run_string_add_sum (P := Try.prog) W _ p.s (by
              show (layOf (ps.take k) ++ octN p.s.size).length + p.s.size ≤ _
              rw [List.length_append]
              have : (layOf (ps.take k)).length ≤ 1000000 := by omega
              omega)
          go_wp2_with fail
          go_region_held3 (fun w' => w'.cell? ⟨wr.heap.size, 2, none⟩ = some (.string p.s)) (first | go_keep | (rw [hb2.cell (by simp)]; simp))
            (first | (go_at_call 25; refine (ref_any _ (by omega) _).mono ?_; rintro e w2 ⟨rfl, hb2⟩))
          go_wp2
          go_roundw
          case rel =>
            have hb3 := hb2.mono (B' := w.heap.size) (by simp; omega)
            refine ⟨k + 1, by omega, by go_num, ?_, ((hb.alloc hz _).drew.trans hb3)⟩
            rw [HT.out, HO.out]
            unfold octT
            rw [← List.append_assoc, ← cat_list]
            exact congrArg (fun t => Value.string (_ ++ t)) (bytes_of p.s)
          case measure => simp [intOf]; omega
        · have ho : p.oct = octF p.yes := by unfold Part.oct; rw [if_neg h0, if_neg h1]
          rw [ho] at htl
          have HO := Lib.hid ho
          clear ho
          obtain ⟨r, hr⟩ : ∃ r, r = p.kind % 4 := ⟨_, rfl⟩
          have e0 : ((r : Int) == 0) = false := by rw [beq_eq_false_iff_ne]; omega
          have e1 : ((r : Int) == 1) = false := by rw [beq_eq_false_iff_ne]; omega
          rw [← hr] at hm
          obtain ⟨y, hy⟩ : ∃ y, y = p.yes := ⟨_, rfl⟩
          rw [← hy] at d3 htl
          have HY := Lib.hid hy
          clear hr h0 h1 hy
          have hll : (layOf (ps.take k)).length ≤ 1000000 := by omega
          cases y
          all_goals
            go_wp2
            go_roundw
            case rel =>
              refine ⟨k + 1, by omega, by go_num, ?_, hb.alloc hz _⟩
              rw [HT.out, HO.out, ← HY.out]
              exact congrArg Value.string (cat_list _ _)
            case measure => simp [intOf]; omega
    · have hge : ¬ (k : Int) < (ps.length : Int) := by omega
      have e : ps.take k = ps := List.take_of_length_le (by omega)
      rw [e]
      clear e hlt
      go_wp2
      go_ret
      exact ⟨rfl, hb⟩

/-- no parts, wherever they lie -/
theorem lay_empty (a : Option Addr) (cap : Nat) (w : World) :
    Calls Try.prog 15 #[.slice a 0 cap] w fun e w' => e = .returned (.string ⟨#[]⟩) ∧ Below w.heap.size w w' := by
  go_enter Try.func15, Try.ntmps15
  go_wp2
  refine wp_loop_rounds 1 ?_
  rw [rounds_succ]
  go_wp2
  go_ret
  exact ⟨rfl, Below.refl _ _⟩

/-- Block b holds one part. -/
def PartBlk (w : World) (b : Nat) (p : Part) : Prop := w.heap[b]? = some (.cells #[.int .i64 p.kind, .int .i64 p.n, .string p.s, .bool p.yes] 27 (0, 0))

theorem PartBlk.cells {w : World} {b : Nat} {p : Part} (h : PartBlk w b p) : PartIn w b 0 p := by
  unfold PartIn World.cell?
  simp only [PartBlk] at h
  simp [h]
theorem PartBlk.free {w : World} {b : Nat} {p : Part} (h : PartBlk w b p) (j : Nat) : w.frozen? ⟨b, j, none⟩ = false := by
  unfold World.frozen?; rw [h]; simp
theorem PartBlk.lt {w : World} {b : Nat} {p : Part} (h : PartBlk w b p) : b < w.heap.size := (Array.getElem?_eq_some_iff.1 h).1
theorem PartBlk.setN {w : World} {b : Nat} {p : Part} (h : PartBlk w b p) (x : Int) : PartBlk (w.setCell ⟨b, 1, none⟩ (.int .i64 x)) b { p with n := x } := heap_setCell_same w b 1 _ _ _ h
theorem PartBlk.setS {w : World} {b : Nat} {p : Part} (h : PartBlk w b p) (x : ByteArray) : PartBlk (w.setCell ⟨b, 2, none⟩ (.string x)) b { p with s := x } := heap_setCell_same w b 2 _ _ _ h
theorem PartBlk.setYes {w : World} {b : Nat} {p : Part} (h : PartBlk w b p) (x : Bool) : PartBlk (w.setCell ⟨b, 3, none⟩ (.bool x)) b { p with yes := x } := heap_setCell_same w b 3 _ _ _ h
theorem PartBlk.kept {w w' : World} {b : Nat} {p : Part} {row : Option Nat} (h : PartBlk w b p) (hg : w.grownBy w' row) (hne : some b ≠ row) : PartBlk w' b p := (hg.block b h.lt hne).trans h

theorem layOf_one (p : Part) : layOf [p] = p.oct := by simp [layOf]

/-- one part -/
theorem lay_one (b : Nat) (p : Part) (cap : Nat) (w : World) (hbw : b < w.heap.size) (hp : PartIn w b 0 p) (hn : p.n ≤ 9223372036854775807) (hlen : p.oct.length ≤ 1000000) :
    Calls Try.prog 15 #[.slice (some ⟨b, 0, none⟩) 1 cap] w fun e w' => e = .returned (.string ⟨p.oct.toArray⟩) ∧ Below w.heap.size w w' := by
  have h := lay_any b 0 [p] cap w hbw (fun i hi => by
    obtain rfl : i = 0 := by simp at hi; omega
    exact ⟨by simpa using hp, by simpa using hn⟩) (by rw [layOf_one]; exact hlen) (by simp)
  rw [layOf_one] at h
  exact h

end Go.Proofs.Ytecejmefnbejhaa
