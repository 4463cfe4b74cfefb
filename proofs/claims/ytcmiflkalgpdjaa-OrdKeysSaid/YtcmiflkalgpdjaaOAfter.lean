/-
  ord.After; the law's begins.
-/
import Derived.Test.YtcmiflkalgpdjaaOBack
import Derived.RegionTactic
import Derived.Deep.RegionHeld3
import Derived.Deep.QuietTactic
import Derived.BigQuiet
namespace Go.Proofs.Ytcmiflkalgpdjaa
open Go.RowKit

/-- does a text begin with another one? -/
def begB (x y : L8) : Bool := decide (y <+: x)

theorem extract_pre (s : ByteArray) (n : Nat) : (s.extract 0 n).data.toList = s.data.toList.take n := by
  rw [Lib.extract_data]; simp

theorem begB_take (x y : L8) : begB x y = (x.take y.length == y) := by
  unfold begB
  rw [Bool.eq_iff_iff, decide_eq_true_eq, beq_iff_eq]
  constructor
  · intro k; exact (List.prefix_iff_eq_take.1 k).symm
  · intro k; exact List.prefix_iff_eq_take.2 k.symm

theorem begins_any (s t : ByteArray) (w : World) :
    Calls Try.prog 20 #[.string s, .string t] w fun e w' => e = .returned (.bool (begB s.data.toList t.data.toList)) ∧ w = w' := by
  by_cases h : t.size ≤ s.size
  · have h' : ¬ (s.size : Int) < (t.size : Int) := by omega
    have hb := begB_take s.data.toList t.data.toList
    rw [show t.data.toList.length = t.size by rw [Array.length_toList]; rfl] at hb
    have HB := Lib.hid hb
    clear hb
    go_enter Try.func20, Try.ntmps20
    go_wp2
    go_ret
    refine ⟨?_, rfl⟩
    rw [HB.out]
    congr 2; simp [Lib.toList_data]
  · have h' : (s.size : Int) < (t.size : Int) := by omega
    have hb : begB s.data.toList t.data.toList = false := by
      unfold begB
      rw [decide_eq_false_iff_not]
      intro k
      have := k.length_le
      rw [Array.length_toList, Array.length_toList] at this
      exact h this
    have HB := Lib.hid hb
    clear hb
    go_enter Try.func20, Try.ntmps20
    go_wp2
    go_ret
    exact ⟨by rw [HB.out]; rfl, rfl⟩

theorem below_drew' {B : Nat} {a w : World} (h : Below B a w) : Below B a w.drew := ⟨h.os, h.tape, h.output, h.size, h.block⟩

def AfterPost (p : L8) (w : World) (e : Ending) (w' : World) : Prop :=
  (aft p = none ∧ (∀ c ∈ p, c = 255) ∧ e = .returned (.tuple #[.string ⟨#[]⟩, .bool false]) ∧ w = w') ∨ ∃ a, aft p = some a ∧ e = .returned (.tuple #[.string ⟨a.toArray⟩, .bool true]) ∧ Below w.heap.size w w'

set_option maxHeartbeats 1000000 in
theorem after_any (p : ByteArray) (hp : p.size ≤ 9223372036854775807) (w : World) :
    Calls Try.prog 19 #[.string p] w (AfterPost p.data.toList w) := by
  go_enter Try.func19, Try.ntmps19
  go_wp2
  go_loop [4] (fun i => ∃ k : Nat, k ≤ p.size ∧ i = .int .i64 ((k : Int) - 1) ∧ ∀ j (h : j < p.size), k ≤ j → p[j] = 255) (fun i => (intOf i + 1).toNat)
  case atStart => exact ⟨p.size, Nat.le_refl _, rfl, fun j h1 h2 => by omega⟩
  case round =>
    obtain ⟨k, hk, rfl, hall⟩ := hrel
    have HALL := Lib.hid hall
    clear hall
    by_cases h0 : k = 0
    · subst h0
      go_wp2
      go_ret2
      refine .inl ⟨aft_none _ ?_, ?_, rfl, rfl⟩
      all_goals
        intro c hc
        obtain ⟨j, hj, rfl⟩ := List.getElem_of_mem hc
        exact HALL.out j (by rw [Array.length_toList] at hj; exact hj) (by omega)
    · obtain ⟨m, rfl⟩ : ∃ m : Nat, k = m + 1 := ⟨k - 1, by omega⟩
      have hcb := (p[m]'(by omega)).toNat_lt
      by_cases h255 : p[m]'(by omega) = 255
      · have hne : (((p[m]'(by omega)).toNat : Int) == 255) = true := by rw [h255]; rfl
        have hne' : (((p[m]'(by omega)).toNat : Int) != 255) = false := by rw [bne, hne]; rfl
        have H255 := Lib.hid h255
        clear h255
        go_wp2
        go_round
        case rel =>
          refine ⟨m, by omega, by go_num, fun j h1 h2 => ?_⟩
          by_cases e : j = m
          · subst e; exact H255.out
          · exact HALL.out j h1 (by omega)
        case measure => simp [intOf]
      · have hni : (p[m]'(by omega)).toNat ≠ 255 := fun e => h255 (u8_toNat_eq.2 (e.trans (by decide)))
        have hne : (((p[m]'(by omega)).toNat : Int) == 255) = false := by
          rw [beq_eq_false_iff_ne]; omega
        have hne' : (((p[m]'(by omega)).toNat : Int) != 255) = true := by rw [bne, hne]; rfl
        have hlt : ((p[m]'(by omega)).toNat : Int) + 1 < 256 := by omega
        have h0m : (0 : Int) ≤ (m : Int) := by omega
        have hms : (m : Int) < (p.size : Int) := by omega
        have hmle : m ≤ p.size := by omega
        have hcv : (convert 32 9 (.slice (some ⟨w.heap.size, 0, none⟩) 1 1)).run Try.prog (w.alloc (.cells #[.int .u8 (((p[m]'(by omega)).toNat : Int) + 1)] 5)).drew = .ok (.string ⟨[p[m]'(by omega) + 1].toArray⟩) (w.alloc (.cells #[.int .u8 (((p[m]'(by omega)).toNat : Int) + 1)] 5)).drew := run_convert_bytes_back (P := Try.prog) (w.alloc (.cells #[.int .u8 (((p[m]'(by omega)).toNat : Int) + 1)] 5)).drew 32 9 5 ⟨w.heap.size, 0, none⟩ 1 [p[m]'(by omega) + 1] Try.underlying32 Try.underlying5 Try.underlying9 (fun j hj => by
          obtain rfl : j = 0 := by simpa using hj
          have := succ_toNat h255
          simp [Addr.add, this])
        have ha := aft_at (p.data.toList.take m) (p[m]'(by omega)) h255 (p.data.toList.drop (m + 1)) (fun d hd => by
          obtain ⟨j, hj, rfl⟩ := List.getElem_of_mem hd
          rw [List.getElem_drop]
          rw [List.length_drop, Array.length_toList] at hj
          exact HALL.out (m + 1 + j) (by have : p.data.size = p.size := rfl; omega) (by omega))
        have hsplit : p.data.toList.take m ++ (p[m]'(by omega)) :: p.data.toList.drop (m + 1) = p.data.toList := by
          have : p[m]'(by omega) = p.data.toList[m]'(by rw [Array.length_toList]; exact hms |> Int.ofNat_lt.1) := rfl
          rw [this, ← List.drop_eq_getElem_cons, List.take_append_drop]
        rw [hsplit] at ha
        have hstr : Hid (p.extract 0 m ++ (⟨[p[m]'(by omega) + 1].toArray⟩ : ByteArray) = ⟨(p.data.toList.take m ++ [p[m]'(by omega) + 1]).toArray⟩) := Lib.hid (by
          apply ByteArray.ext; apply Array.toList_inj.1; simp)
        have HA := Lib.hid ha
        clear ha hsplit h255 hni hcb
        go_wp2
        go_region
        all_goals
          go_wp2
          go_ret2
          refine .inr ⟨_, HA.out, ?_, (below_drew' ((Below.refl _ w).alloc (Nat.le_refl _) _))⟩
          rw [← hstr.out]
          rfl

end Go.Proofs.Ytcmiflkalgpdjaa
