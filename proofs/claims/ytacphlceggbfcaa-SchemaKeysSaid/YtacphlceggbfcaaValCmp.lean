/-
  val: the order of values, plainly; the orders of numbers, names and flags.
-/
import Derived.Test.YtacphlceggbfcaaValMem
import Derived.WalkLawsBesides
import Derived.WalkSpells
namespace Go.Proofs.Ytacphlceggbfcaa
open Go.RowKit

theorem cmpB_eq : ∀ (a b : L8), Lib.compareBytes a b = cmpL a b
  | [], [] => by simp [Lib.compareBytes, cmpL]
  | [], y :: b => by simp [Lib.compareBytes, cmpL]
  | x :: a, [] => by simp [Lib.compareBytes, cmpL]
  | x :: a, y :: b => by
    rw [Lib.compareBytes, cmpB_eq a b]
    unfold cmpL
    simp only [lt_cons, UInt8.lt_iff_toNat_lt]
    by_cases h1 : x.toNat < y.toNat
    · simp [h1]
    · by_cases h2 : y.toNat < x.toNat
      · have h3 : ¬ x.toNat = y.toNat := by omega
        simp [h1, h2, h3]
      · have h3 : x.toNat = y.toNat := by omega
        simp [h3]

def cmpI (a b : Int) : Int := if a < b then -1 else if b < a then 1 else 0
def cmpYes (a b : Bool) : Int := if a = b then 0 else if b then -1 else 1

mutual
/-- the order of two values -/
def V.cmp : V → V → Int
  | .mk k y n t l f, o => if k ≠ o.kind then cmpI k o.kind else if k = 1 then cmpYes y o.yes else if k = 2 then cmpI n o.num else if k = 3 then cmpL t.data.toList o.text.data.toList else if k = 4 then cmpVs l o.list else if k = 5 then cmpFs f o.fields else 0
def cmpVs : List V → List V → Int
  | [], [] => 0
  | [], _ :: _ => -1
  | _ :: _, [] => 1
  | a :: xs, b :: ys => if V.cmp a b ≠ 0 then V.cmp a b else cmpVs xs ys
def cmpFs : List (ByteArray × V) → List (ByteArray × V) → Int
  | [], [] => 0
  | [], _ :: _ => -1
  | _ :: _, [] => 1
  | a :: xs, b :: ys => if (if a.1 ≠ b.1 then cmpL a.1.data.toList b.1.data.toList else V.cmp a.2 b.2) ≠ 0 then (if a.1 ≠ b.1 then cmpL a.1.data.toList b.1.data.toList else V.cmp a.2 b.2) else cmpFs xs ys
end

def cmpFd (a b : Fd) : Int := if a.1 ≠ b.1 then cmpL a.1.data.toList b.1.data.toList else V.cmp a.2 b.2
theorem cmpFs_cons (a b : Fd) (xs ys : List Fd) : cmpFs (a :: xs) (b :: ys) = if cmpFd a b ≠ 0 then cmpFd a b else cmpFs xs ys := by rw [cmpFs]; rfl

theorem cmpVs_at {a b : List V} {j : Nat} (h : j < a.length) (h2 : j < b.length) : cmpVs (a.drop j) (b.drop j) = if V.cmp a[j] b[j] ≠ 0 then V.cmp a[j] b[j] else cmpVs (a.drop (j + 1)) (b.drop (j + 1)) := by
  rw [List.drop_eq_getElem_cons h, List.drop_eq_getElem_cons h2, cmpVs]
theorem cmpFs_at {a b : List Fd} {j : Nat} (h : j < a.length) (h2 : j < b.length) : cmpFs (a.drop j) (b.drop j) = if cmpFd a[j] b[j] ≠ 0 then cmpFd a[j] b[j] else cmpFs (a.drop (j + 1)) (b.drop (j + 1)) := by
  rw [List.drop_eq_getElem_cons h, List.drop_eq_getElem_cons h2, cmpFs_cons]
theorem cmpVs_long {a b : List V} {j : Nat} (h : j < a.length) (h2 : b.length ≤ j) : cmpVs (a.drop j) (b.drop j) = 1 := by
  rw [List.drop_eq_getElem_cons h, List.drop_of_length_le h2, cmpVs]
theorem cmpFs_long {a b : List Fd} {j : Nat} (h : j < a.length) (h2 : b.length ≤ j) : cmpFs (a.drop j) (b.drop j) = 1 := by
  rw [List.drop_eq_getElem_cons h, List.drop_of_length_le h2, cmpFs]
theorem cmpVs_end {a b : List V} {j : Nat} (h : a.length = j) (hb : j ≤ b.length) : cmpVs (a.drop j) (b.drop j) = if a.length < b.length then -1 else 0 := by
  rw [List.drop_of_length_le (by omega)]
  by_cases h2 : a.length < b.length
  · rw [if_pos h2, List.drop_eq_getElem_cons (l := b) (i := j) (by omega), cmpVs]
  · rw [if_neg h2, List.drop_of_length_le (by omega), cmpVs]
theorem cmpFs_end {a b : List Fd} {j : Nat} (h : a.length = j) (hb : j ≤ b.length) : cmpFs (a.drop j) (b.drop j) = if a.length < b.length then -1 else 0 := by
  rw [List.drop_of_length_le (by omega)]
  by_cases h2 : a.length < b.length
  · rw [if_pos h2, List.drop_eq_getElem_cons (l := b) (i := j) (by omega), cmpFs]
  · rw [if_neg h2, List.drop_of_length_le (by omega), cmpFs]

theorem ret_int {k : IntKind} {a b : Int} (h : a = b) : Ending.returned (.int k a) = .returned (.int k b) := by rw [h]

theorem cmpKind_any (a b : Int) (w : World) : Calls Try.prog 41 #[.int .i64 a, .int .i64 b] w fun e w' => e = .returned (.int .i64 (cmpI a b)) ∧ w = w' := by
  by_cases h1 : a < b
  · go_enter Try.func41, Try.ntmps41
    go_wp2
    go_ret
    exact ⟨ret_int (by unfold cmpI; rw [if_pos (by omega)]), rfl⟩
  · by_cases h2 : b < a
    · go_enter Try.func41, Try.ntmps41
      go_wp2
      go_ret
      exact ⟨ret_int (by unfold cmpI; rw [if_neg (by omega), if_pos (by omega)]), rfl⟩
    · go_enter Try.func41, Try.ntmps41
      go_wp2
      go_ret
      exact ⟨ret_int (by unfold cmpI; rw [if_neg (by omega), if_neg (by omega)]), rfl⟩

theorem cmpInt_any (a b : Int) (w : World) : Calls Try.prog 43 #[.int .i64 a, .int .i64 b] w fun e w' => e = .returned (.int .i64 (cmpI a b)) ∧ w = w' := by
  by_cases h1 : a < b
  · go_enter Try.func43, Try.ntmps43
    go_wp2
    go_ret
    exact ⟨ret_int (by unfold cmpI; rw [if_pos (by omega)]), rfl⟩
  · by_cases h2 : b < a
    · go_enter Try.func43, Try.ntmps43
      go_wp2
      go_ret
      exact ⟨ret_int (by unfold cmpI; rw [if_neg (by omega), if_pos (by omega)]), rfl⟩
    · go_enter Try.func43, Try.ntmps43
      go_wp2
      go_ret
      exact ⟨ret_int (by unfold cmpI; rw [if_neg (by omega), if_neg (by omega)]), rfl⟩

theorem cmpFlags_any (a b : Bool) (w : World) : Calls Try.prog 42 #[.bool a, .bool b] w fun e w' => e = .returned (.int .i64 (cmpYes a b)) ∧ w = w' := by
  cases a <;> cases b
  all_goals
    go_enter Try.func42, Try.ntmps42
    go_wp2
    go_ret
    exact ⟨rfl, rfl⟩

theorem cmpText_any (a b : ByteArray) (w : World) : Calls Try.prog 44 #[.string a, .string b] w fun e w' => e = .returned (.int .i64 (cmpL a.data.toList b.data.toList)) ∧ w = w' :=
  (Try.strings_Compare a b w).mono fun _ _ ⟨h1, h2⟩ => ⟨by rw [h1, cmpB_eq], h2.symm⟩

end Go.Proofs.Ytacphlceggbfcaa
