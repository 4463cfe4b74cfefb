/-
  The Reader's texts and flags, and what a nil Reader tells: each method's contract.
-/
import Derived.Test.YtcebnoapgceodaaRead2
namespace Go.Proofs.Ytcebnoapgceodaa
open Go.RowKit

/-- What a text is read as, and what is left. -/
def textRead (l : List UInt8) (most : Nat) : Option (List UInt8 × List UInt8) :=
  match numRead l most with
  | none => none
  | some (n, r) => if r.length < n then none else some (r.take n, r.drop n)

theorem textRead_none {l : List UInt8} {most : Nat} (h : numRead l most = none) : textRead l most = none := by unfold textRead; rw [h]
theorem textRead_some {l : List UInt8} {most n : Nat} {r : List UInt8} (h : numRead l most = some (n, r)) : textRead l most = if r.length < n then none else some (r.take n, r.drop n) := by unfold textRead; rw [h]

def flagRead (l : List UInt8) : Option (Bool × List UInt8) :=
  match l with
  | [] => none
  | c :: r => if c = 0 then some (false, r) else if c = 1 then some (true, r) else none

theorem numRead_len {l : List UInt8} {m n : Nat} {r : List UInt8} (h : numRead l m = some (n, r)) : r.length ≤ l.length ∧ n ≤ m := by
  match l, h with
  | c :: s, h =>
    rw [numRead_cons] at h
    split at h
    · cases h
    · rename_i hn
      simp only [Option.some.injEq, Prod.mk.injEq] at h
      obtain ⟨rfl, rfl⟩ := h
      have : ¬ m < val (s.take c.toNat) := fun x => hn (.inr (.inr (.inr x)))
      refine ⟨by simp; omega, by omega⟩

/-- Text -/
theorem text_read (b : Nat) (bad : Bool) (l : List UInt8) (hl : l.length ≤ 281474976710656) (most : Int) (hmost : most ≤ 9223372036854775807) (w : World) (h : Rd w b ⟨l.toArray⟩ bad) :
    Calls Try.prog 116 #[.pointer (some ⟨b, 0, none⟩), .int .i64 most] w (ReadPost (.string ⟨#[]⟩) (fun t : List UInt8 => .string ⟨t.toArray⟩) (textRead l most.toNat) b bad w) := by
  go_enter Try.func116, Try.ntmps116
  go_wp2_with fail
  refine (num_read b bad l most hmost _ h).mono ?_
  rintro e w1 (⟨ho, rfl, hg⟩ | ⟨n, r, ho, rfl, hg⟩)
  · have HO := Lib.hid ho
    clear ho
    go_wp2_with (go_at_call 146; refine (raw_none b _ true 0 (by decide) _ hg.1).mono ?_; rintro e w2 ⟨rfl, hg2⟩)
    go_ret
    exact .inl ⟨textRead_none HO.out, rfl, hg.trans hg2⟩
  · have hlen := numRead_len ho
    have HO := Lib.hid ho
    clear ho
    by_cases hn : n = 0
    · subst hn
      go_wp2_with (go_at_call 146; refine (raw_none b _ bad 0 (by decide) _ hg.1).mono ?_; rintro e w2 ⟨rfl, hg2⟩)
      go_ret
      exact .inr ⟨[], r, by rw [textRead_some HO.out]; simp, rfl, hg.trans hg2⟩
    · by_cases hr : r.length < n
      · go_wp2_with (go_at_call 146; refine (raw_few b ⟨r.toArray⟩ bad n (by omega) hr _ hg.1).mono ?_; rintro e w2 ⟨rfl, hg2⟩)
        go_ret
        exact .inl ⟨by rw [textRead_some HO.out, if_pos hr], rfl, hg.trans hg2⟩
      · have hsz : (⟨r.toArray⟩ : ByteArray).size = r.length := rfl
        have hx : (⟨r.toArray⟩ : ByteArray).extract 0 n = ⟨(r.take n).toArray⟩ := by rw [extract_list]; simp
        have hy : (⟨r.toArray⟩ : ByteArray).extract n (⟨r.toArray⟩ : ByteArray).size = ⟨(r.drop n).toArray⟩ := by
          rw [extract_list, hsz, List.take_of_length_le (by simp)]
        have HX := Lib.hid hx
        have HY := Lib.hid hy
        have HZ := Lib.hid hsz
        clear hx hy hsz
        go_wp2_with (go_at_call 146; refine (raw_ok b ⟨r.toArray⟩ bad n (by omega) (by rw [HZ.out]; omega) (by rw [HZ.out]; omega) _ hg.1).mono ?_; rintro e w2 ⟨rfl, hg2⟩)
        go_ret
        rw [HY.out] at hg2
        refine .inr ⟨r.take n, r.drop n, by rw [textRead_some HO.out, if_neg hr], ?_, hg.trans hg2⟩
        show Ending.returned (.string _) = _
        rw [HX.out]

/-- Flag -/
theorem flag_read (b : Nat) (bad : Bool) (l : List UInt8) (w : World) (h : Rd w b ⟨l.toArray⟩ bad) :
    Calls Try.prog 117 #[.pointer (some ⟨b, 0, none⟩)] w (ReadPost (.bool false) (fun x : Bool => .bool x) (flagRead l) b bad w) := by
  match l, h with
  | [], h =>
    go_enter Try.func117, Try.ntmps117
    go_wp2_with (first
      | (go_at_call 113; refine (take_one_empty b bad _ h).mono ?_; rintro e w1 ⟨rfl, hg⟩)
      | (go_at_call 115; refine (fail_at b _ _ _ hg.1).mono ?_; rintro e w2 ⟨rfl, hg2⟩))
    go_ret
    exact .inl ⟨rfl, rfl, hg.trans hg2⟩
  | c :: r, h =>
    by_cases h0 : c = 0
    · subst h0
      go_enter Try.func117, Try.ntmps117
      go_wp2_with (go_at_call 113; refine (take_one b _ r bad _ h).mono ?_; rintro e w1 ⟨rfl, hg⟩)
      go_ret
      exact .inr ⟨false, r, rfl, rfl, hg⟩
    · by_cases h1 : c = 1
      · subst h1
        go_enter Try.func117, Try.ntmps117
        go_wp2_with (go_at_call 113; refine (take_one b _ r bad _ h).mono ?_; rintro e w1 ⟨rfl, hg⟩)
        go_ret
        exact .inr ⟨true, r, rfl, rfl, hg⟩
      · have hf : flagRead (c :: r) = none := by simp [flagRead, h0, h1]
        have HF := Lib.hid hf
        clear hf
        have e0 : (c == 0) = false := by simpa using h0
        have e1 : (c == 1) = false := by simpa using h1
        go_enter Try.func117, Try.ntmps117
        go_wp2_with (first
          | (go_at_call 113; refine (take_one b c r bad _ h).mono ?_; rintro e w1 ⟨rfl, hg⟩)
          | (go_at_call 115; refine (fail_at b _ _ _ hg.1).mono ?_; rintro e w2 ⟨rfl, hg2⟩))
        go_ret
        exact .inl ⟨HF.out, rfl, hg.trans hg2⟩

theorem end_left (b : Nat) (c : UInt8) (r : List UInt8) (bad : Bool) (w : World) (h : Rd w b ⟨(c :: r).toArray⟩ bad) :
    Calls Try.prog 66 #[.pointer (some ⟨b, 0, none⟩)] w fun e w' => e = .returned (.int .i64 2) ∧ w = w' := by
  have hsz : decide (0 < (⟨(c :: r).toArray⟩ : ByteArray).size) = true := decide_eq_true (Nat.succ_pos _)
  have hh := end_at b _ bad w h
  rw [hsz, Bool.or_true] at hh
  exact hh

theorem end_done (b : Nat) (w : World) (h : Rd w b ⟨#[]⟩ false) :
    Calls Try.prog 66 #[.pointer (some ⟨b, 0, none⟩)] w fun e w' => e = .returned (.int .i64 0) ∧ w = w' := end_at b _ false w h

theorem end_bad (b : Nat) (s : ByteArray) (w : World) (h : Rd w b s true) :
    Calls Try.prog 66 #[.pointer (some ⟨b, 0, none⟩)] w fun e w' => e = .returned (.int .i64 2) ∧ w = w' := end_at b _ true w h

theorem err_good (b : Nat) (s : ByteArray) (w : World) (h : Rd w b s false) :
    Calls Try.prog 111 #[.pointer (some ⟨b, 0, none⟩)] w fun e w' => e = .returned (.int .i64 0) ∧ w = w' := err_at b s false w h

theorem err_bad (b : Nat) (s : ByteArray) (w : World) (h : Rd w b s true) :
    Calls Try.prog 111 #[.pointer (some ⟨b, 0, none⟩)] w fun e w' => e = .returned (.int .i64 2) ∧ w = w' := err_at b s true w h

theorem left_list (b : Nat) (l : List UInt8) (bad : Bool) (w : World) (h : Rd w b ⟨l.toArray⟩ bad) :
    Calls Try.prog 110 #[.pointer (some ⟨b, 0, none⟩)] w fun e w' => e = .returned (.int .i64 l.length) ∧ w = w' := left_at b _ bad w h

theorem fail_nil (w : World) :
    Calls Try.prog 115 #[.pointer none] w fun e w' => e = .returned (.tuple #[]) ∧ w = w' := by
  go_enter Try.func115, Try.ntmps115
  go_wp2
  go_end0
  exact ⟨rfl, rfl⟩

theorem num_nil (most : Int) (w : World) :
    Calls Try.prog 68 #[.pointer none, .int .i64 most] w fun e w' => e = .returned (.int .i64 0) ∧ w = w' := by
  go_enter Try.func68, Try.ntmps68
  go_wp2_with (go_at_call 113; refine (take_nil _ _).mono ?_; rintro e w1 ⟨rfl, rfl⟩)
  go_ret
  exact ⟨rfl, rfl⟩

theorem text_nil (most : Int) (w : World) :
    Calls Try.prog 116 #[.pointer none, .int .i64 most] w fun e w' => e = .returned (.string ⟨#[]⟩) ∧ Below w.heap.size w w' := by
  go_enter Try.func116, Try.ntmps116
  go_wp2_with (first
    | (go_at_call 68; refine (num_nil _ _).mono ?_; rintro e w1 ⟨rfl, rfl⟩)
    | (go_at_call 146; refine (raw_nil _ _).mono ?_; rintro e w1 ⟨rfl, hb⟩))
  go_ret
  exact ⟨rfl, hb⟩

theorem flag_nil (w : World) :
    Calls Try.prog 117 #[.pointer none] w fun e w' => e = .returned (.bool false) ∧ w = w' := by
  go_enter Try.func117, Try.ntmps117
  go_wp2_with (first
    | (go_at_call 113; refine (take_nil _ _).mono ?_; rintro e w1 ⟨rfl, rfl⟩)
    | (go_at_call 115; refine (fail_nil _).mono ?_; rintro e w1 ⟨rfl, rfl⟩))
  go_ret
  exact ⟨rfl, rfl⟩

/-- behind an error -/
theorem num_fail (b : Nat) (most : Int) (w : World) (h : Rd w b ⟨#[]⟩ true) :
    Calls Try.prog 68 #[.pointer (some ⟨b, 0, none⟩), .int .i64 most] w fun e w' => e = .returned (.int .i64 0) ∧ Goes w b ⟨#[]⟩ true w' := num_empty b true most w h

theorem text_fail (b : Nat) (most : Int) (w : World) (h : Rd w b ⟨#[]⟩ true) :
    Calls Try.prog 116 #[.pointer (some ⟨b, 0, none⟩), .int .i64 most] w fun e w' => e = .returned (.string ⟨#[]⟩) ∧ Goes w b ⟨#[]⟩ true w' := by
  go_enter Try.func116, Try.ntmps116
  go_wp2_with (first
    | (go_at_call 68; refine (num_fail _ _ _ h).mono ?_; rintro e w1 ⟨rfl, hg⟩)
    | (go_at_call 146; refine (raw_none b _ true 0 (by decide) _ hg.1).mono ?_; rintro e w2 ⟨rfl, hg2⟩))
  go_ret
  exact ⟨rfl, hg.trans hg2⟩

theorem flag_fail (b : Nat) (w : World) (h : Rd w b ⟨#[]⟩ true) :
    Calls Try.prog 117 #[.pointer (some ⟨b, 0, none⟩)] w fun e w' => e = .returned (.bool false) ∧ Goes w b ⟨#[]⟩ true w' := by
  refine (flag_read b true [] w h).mono fun e w' hp => ?_
  rcases hp with ⟨_, he, hg⟩ | ⟨v, r, ho, _⟩
  · exact ⟨he, hg⟩
  · cases ho

end Go.Proofs.Ytcebnoapgceodaa
