
/-
  The Reader's texts and flags, and what a nil Reader tells: each method's contract.
-/
import Derived.Test.YtcncoppnkodhmabRead2
namespace Go.Proofs.Ytcncoppnkodhmab
open Go.RowKit

/-- What a text is read as, and what is left. -/
def textRead (l : List UInt8) (most : Nat) : Option (List UInt8 × List UInt8) :=
  match numRead l most with
  | none => none
  | some (n, r) => if r.length < n then none else some (r.take n, r.drop n)

theorem textRead_none {l : List UInt8} {most : Nat} (h : numRead l most = none) : textRead l most = none := by unfold textRead; rw [h]
theorem textRead_some {l : List UInt8} {most n : Nat} {r : List UInt8} (h : numRead l most = some (n, r)) : textRead l most = if r.length < n then none else some (r.take n, r.drop n) := by unfold textRead; rw [h]

def flagRead (l : List UInt8) : Option (Bool × List UInt8) :=
  match l with
  | [] => none
  | c :: r => if c = 0 then some (false, r) else if c = 1 then some (true, r) else none

theorem numRead_len {l : List UInt8} {m n : Nat} {r : List UInt8} (h : numRead l m = some (n, r)) : r.length ≤ l.length ∧ n ≤ m := by
  match l, h with
  | c :: s, h =>
    rw [numRead_cons] at h
    split at h
    · cases h
    · rename_i hn
      simp only [Option.some.injEq, Prod.mk.injEq] at h
      obtain ⟨rfl, rfl⟩ := h
      have : ¬ m < val (s.take c.toNat) := fun x => hn (.inr (.inr (.inr x)))
      refine ⟨by simp; omega, by omega⟩

/-- Text -/
theorem text_read (b : Nat) (bad : Bool) (l : List UInt8) (hl : l.length ≤ 281474976710656) (most : Int) (hmost : most ≤ 9223372036854775807) (w : World) (h : Rd w b ⟨l.toArray⟩ bad) :
    Calls Try.prog 24 #[.pointer (some ⟨b, 0, none⟩), .int .i64 most] w (ReadPost (.string ⟨#[]⟩) (fun t : List UInt8 => .string ⟨t.toArray⟩) (textRead l most.toNat) b bad w) := by
  go_enter Try.func24, Try.ntmps24
  go_wp2_with fail
  refine (num_read b bad l most hmost _ h).mono ?_
  rintro e w1 (⟨ho, rfl, hg⟩ | ⟨n, r, ho, rfl, hg⟩)
  · have HO := Lib.hid ho
    clear ho
    go_wp2_with (go_at_call 32; refine (raw_none b _ true 0 (by decide) _ hg.1).mono ?_; rintro e w2 ⟨rfl, hg2⟩)
    go_ret
    exact .inl ⟨textRead_none HO.out, rfl, hg.trans hg2⟩
  · have hlen := numRead_len ho
    have HO := Lib.hid ho
    clear ho
    by_cases hn : n = 0
    · subst hn
      go_wp2_with (go_at_call 32; refine (raw_none b _ bad 0 (by decide) _ hg.1).mono ?_; rintro e w2 ⟨rfl, hg2⟩)
      go_ret
      exact .inr ⟨[], r, by rw [textRead_some HO.out]; simp, rfl, hg.trans hg2⟩
    · by_cases hr : r.length < n
      · go_wp2_with (go_at_call 32; refine (raw_few b ⟨r.toArray⟩ bad n (by omega) hr _ hg.1).mono ?_; rintro e w2 ⟨rfl, hg2⟩)
        go_ret
        exact .inl ⟨by rw [textRead_some HO.out, if_pos hr], rfl, hg.trans hg2⟩
      · have hsz : (⟨r.toArray⟩ : ByteArray).size = r.length := rfl
        have hx : (⟨r.toArray⟩ : ByteArray).extract 0 n = ⟨(r.take n).toArray⟩ := by rw [extract_list]; simp
        have hy : (⟨r.toArray⟩ : ByteArray).extract n (⟨r.toArray⟩ : ByteArray).size = ⟨(r.drop n).toArray⟩ := by
          rw [extract_list, hsz, List.take_of_length_le (by simp)]
        have HX := Lib.hid hx
        have HY := Lib.hid hy
        have HZ := Lib.hid hsz
        clear hx hy hsz
        go_wp2_with (go_at_call 32; refine (raw_ok b ⟨r.toArray⟩ bad n (by omega) (by rw [HZ.out]; omega) (by rw [HZ.out]; omega) _ hg.1).mono ?_; rintro e w2 ⟨rfl, hg2⟩)
        go_ret
        rw [HY.out] at hg2
        refine .inr ⟨r.take n, r.drop n, by rw [textRead_some HO.out, if_neg hr], ?_, hg.trans hg2⟩
        show Ending.returned (.string _) = _
        rw [HX.out]

theorem end_left (b : Nat) (c : UInt8) (r : List UInt8) (bad : Bool) (w : World) (h : Rd w b ⟨(c :: r).toArray⟩ bad) :
    Calls Try.prog 25 #[.pointer (some ⟨b, 0, none⟩)] w fun e w' => e = .returned (.int .i64 2) ∧ w = w' := by
  have hsz : decide (0 < (⟨(c :: r).toArray⟩ : ByteArray).size) = true := decide_eq_true (Nat.succ_pos _)
  have hh := end_at b _ bad w h
  rw [hsz, Bool.or_true] at hh
  exact hh

theorem end_done (b : Nat) (w : World) (h : Rd w b ⟨#[]⟩ false) :
    Calls Try.prog 25 #[.pointer (some ⟨b, 0, none⟩)] w fun e w' => e = .returned (.int .i64 0) ∧ w = w' := end_at b _ false w h

theorem end_bad (b : Nat) (s : ByteArray) (w : World) (h : Rd w b s true) :
    Calls Try.prog 25 #[.pointer (some ⟨b, 0, none⟩)] w fun e w' => e = .returned (.int .i64 2) ∧ w = w' := end_at b _ true w h

theorem err_good (b : Nat) (s : ByteArray) (w : World) (h : Rd w b s false) :
    Calls Try.prog 34 #[.pointer (some ⟨b, 0, none⟩)] w fun e w' => e = .returned (.int .i64 0) ∧ w = w' := err_at b s false w h

theorem err_bad (b : Nat) (s : ByteArray) (w : World) (h : Rd w b s true) :
    Calls Try.prog 34 #[.pointer (some ⟨b, 0, none⟩)] w fun e w' => e = .returned (.int .i64 2) ∧ w = w' := err_at b s true w h

theorem left_list (b : Nat) (l : List UInt8) (bad : Bool) (w : World) (h : Rd w b ⟨l.toArray⟩ bad) :
    Calls Try.prog 33 #[.pointer (some ⟨b, 0, none⟩)] w fun e w' => e = .returned (.int .i64 l.length) ∧ w = w' := left_at b _ bad w h

theorem fail_nil (w : World) :
    Calls Try.prog 31 #[.pointer none] w fun e w' => e = .returned (.tuple #[]) ∧ w = w' := by
  go_enter Try.func31, Try.ntmps31
  go_wp2
  go_end0
  exact ⟨rfl, rfl⟩

theorem num_nil (most : Int) (w : World) :
    Calls Try.prog 23 #[.pointer none, .int .i64 most] w fun e w' => e = .returned (.int .i64 0) ∧ w = w' := by
  go_enter Try.func23, Try.ntmps23
  go_wp2_with (go_at_call 29; refine (take_nil _ _).mono ?_; rintro e w1 ⟨rfl, rfl⟩)
  go_ret
  exact ⟨rfl, rfl⟩

theorem text_nil (most : Int) (w : World) :
    Calls Try.prog 24 #[.pointer none, .int .i64 most] w fun e w' => e = .returned (.string ⟨#[]⟩) ∧ Below w.heap.size w w' := by
  go_enter Try.func24, Try.ntmps24
  go_wp2_with (first
    | (go_at_call 23; refine (num_nil _ _).mono ?_; rintro e w1 ⟨rfl, rfl⟩)
    | (go_at_call 32; refine (raw_nil _ _).mono ?_; rintro e w1 ⟨rfl, hb⟩))
  go_ret
  exact ⟨rfl, hb⟩

/-- behind an error -/
theorem num_fail (b : Nat) (most : Int) (w : World) (h : Rd w b ⟨#[]⟩ true) :
    Calls Try.prog 23 #[.pointer (some ⟨b, 0, none⟩), .int .i64 most] w fun e w' => e = .returned (.int .i64 0) ∧ Goes w b ⟨#[]⟩ true w' := num_empty b true most w h

theorem text_fail (b : Nat) (most : Int) (w : World) (h : Rd w b ⟨#[]⟩ true) :
    Calls Try.prog 24 #[.pointer (some ⟨b, 0, none⟩), .int .i64 most] w fun e w' => e = .returned (.string ⟨#[]⟩) ∧ Goes w b ⟨#[]⟩ true w' := by
  go_enter Try.func24, Try.ntmps24
  go_wp2_with (first
    | (go_at_call 23; refine (num_fail _ _ _ h).mono ?_; rintro e w1 ⟨rfl, hg⟩)
    | (go_at_call 32; refine (raw_none b _ true 0 (by decide) _ hg.1).mono ?_; rintro e w2 ⟨rfl, hg2⟩))
  go_ret
  exact ⟨rfl, hg.trans hg2⟩

end Go.Proofs.Ytcncoppnkodhmab
