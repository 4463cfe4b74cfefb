/-
  What the Reader reads: numbers, texts, flags: each method's contract.
-/
import Derived.Test.YtcebnoapgceodaaReader
import Derived.Test.YtcebnoapgceodaaOrder
import Derived.Lib.Bytes
namespace Go.Proofs.Ytcebnoapgceodaa
open Go.RowKit

theorem or_byte (x b : Nat) (hx : x < 72057594037927936) (hb : b < 256) : bits .or .u64 ((x : Int) * 256) (b : Int) = ((x * 256 + b : Nat) : Int) := by
  rw [show ((x : Int) * 256) = ((x * 256 : Nat) : Int) by omega]
  rw [bits_or_u64_nat (x * 256) b (by omega) (by omega)]
  congr 1
  have := Nat.two_pow_add_eq_or_of_lt (i := 8) (b := b) hb x
  rw [Nat.mul_comm x 256]
  exact this.symm

theorem take_snoc (s : ByteArray) (k : Nat) (h : k < s.size) : s.data.toList.take (k + 1) = s.data.toList.take k ++ [s[k]] := by
  rw [List.take_succ_eq_append_getElem (by simpa using h)]; rfl

theorem val_take_lt (s : ByteArray) (k : Nat) (hk : k ≤ 7) : val (s.data.toList.take k) < 72057594037927936 := by
  have h1 := val_lt (s.data.toList.take k)
  have h2 : (s.data.toList.take k).length ≤ 7 := by simp; omega
  have h3 : 256 ^ (s.data.toList.take k).length ≤ 256 ^ 7 := Nat.pow_le_pow_right (by omega) h2
  omega

set_option maxHeartbeats 400000 in
/-- number: of bytes in the one form -/
theorem number_some (s : ByteArray) (h8 : s.size ≤ 8) (h0 : 0 < s.size) (hz : s[0] ≠ 0) (w : World) :
    Calls Try.prog 114 #[.string s] w fun e w' => e = .returned (.tuple #[.int .u64 (val s.data.toList), .bool true]) ∧ w = w' := by
  have h8' : ¬ (8 : Int) < (s.size : Int) := by omega
  have h0' : (0 : Int) < (s.size : Int) := by omega
  have hz' : (((s[0]'h0).toNat : Int) == 0) = false := by
    rw [beq_eq_false_iff_ne]
    intro e
    exact hz (UInt8.toNat_inj.1 (by simpa using e))
  clear hz
  go_enter Try.func114, Try.ntmps114
  go_wp2
  go_loop [4, 21] (fun x c => ∃ k : Nat, k ≤ s.size ∧ c = .int .i64 k ∧ x = .int .u64 (val (s.data.toList.take k))) (fun _ c => s.size - (intOf c).toNat)
  case atStart => exact ⟨0, Nat.zero_le _, rfl, rfl⟩
  case round =>
    obtain ⟨k, hk, rfl, rfl⟩ := hrel
    by_cases hlt : k < s.size
    · have hx := val_take_lt s k (by omega)
      have hsn := val_snoc (s.data.toList.take k) (s[k]'hlt)
      rw [← take_snoc s k hlt] at hsn
      have hb := (s[k]'hlt).toNat_lt
      obtain ⟨x, ex⟩ : ∃ x, x = val (s.data.toList.take k) := ⟨_, rfl⟩
      rw [← ex] at hx hsn ⊢
      have HS := Lib.hid hsn
      clear hsn ex
      have hor := or_byte x (s[k]'hlt).toNat hx (by omega)
      go_wp2
      go_round
      case rel => exact ⟨k + 1, by omega, by go_num, by rw [HS.out]; go_num⟩
      case measure => simp [intOf]; omega
    · have hge : ¬ (k : Int) < (s.size : Int) := by omega
      have e : s.data.toList.take k = s.data.toList := List.take_of_length_le (by simp; omega)
      rw [e]
      clear e hlt
      go_wp2
      go_ret2
      exact ⟨rfl, rfl⟩

set_option maxHeartbeats 400000 in
theorem number_empty (s : ByteArray) (h0 : s.size = 0) (w : World) :
    Calls Try.prog 114 #[.string s] w fun e w' => e = .returned (.tuple #[.int .u64 0, .bool true]) ∧ w = w' := by
  obtain rfl : s = ⟨#[]⟩ := by
    apply ByteArray.ext
    exact Array.eq_empty_of_size_eq_zero h0
  clear h0
  go_enter Try.func114, Try.ntmps114
  go_wp2
  refine wp_loop_rounds 1 ?_
  rw [rounds_succ]
  go_wp2
  go_ret2
  exact ⟨rfl, rfl⟩

/-- number: of too many bytes -/
theorem number_long (s : ByteArray) (h8 : 8 < s.size) (w : World) :
    Calls Try.prog 114 #[.string s] w fun e w' => e = .returned (.tuple #[.int .u64 0, .bool false]) ∧ w = w' := by
  have h8' : (8 : Int) < (s.size : Int) := by omega
  go_enter Try.func114, Try.ntmps114
  go_wp2
  go_ret2
  exact ⟨rfl, rfl⟩

/-- number: of bytes that begin with nought -/
theorem number_nought (s : ByteArray) (h8 : s.size ≤ 8) (h0 : 0 < s.size) (hz : s[0] = 0) (w : World) :
    Calls Try.prog 114 #[.string s] w fun e w' => e = .returned (.tuple #[.int .u64 0, .bool false]) ∧ w = w' := by
  have h8' : ¬ (8 : Int) < (s.size : Int) := by omega
  have h0' : (0 : Int) < (s.size : Int) := by omega
  have hz' : (((s[0]'h0).toNat : Int) == 0) = true := by rw [hz]; rfl
  clear hz
  go_enter Try.func114, Try.ntmps114
  go_wp2
  go_ret2
  exact ⟨rfl, rfl⟩

theorem bytes_eq (s : ByteArray) : s = ⟨s.data.toList.toArray⟩ := by cases s; simp

theorem extract_list (l : List UInt8) (a b : Nat) : (⟨l.toArray⟩ : ByteArray).extract a b = ⟨((l.drop a).take (b - a)).toArray⟩ := by
  apply ByteArray.ext
  apply Array.toList_inj.1
  rw [Lib.extract_data]

theorem take_list (b : Nat) (l : List UInt8) (bad : Bool) (n : Nat) (h1 : 1 ≤ n) (h2 : n ≤ l.length) (w : World) (h : Rd w b ⟨l.toArray⟩ bad) :
    Calls Try.prog 113 #[.pointer (some ⟨b, 0, none⟩), .int .i64 n] w fun e w' => e = .returned (.string ⟨(l.take n).toArray⟩) ∧ Goes w b ⟨(l.drop n).toArray⟩ bad w' := by
  have hsz : (⟨l.toArray⟩ : ByteArray).size = l.length := rfl
  refine (take_ok b _ bad n h1 (by rw [hsz]; exact h2) w h).mono fun e w' ⟨he, hg⟩ => ?_
  rw [extract_list] at he hg
  rw [hsz] at hg
  have e1 : (l.drop n).take (l.length - n) = l.drop n := List.take_of_length_le (by simp)
  have e2 : (l.drop 0).take (n - 0) = l.take n := by simp
  rw [e1] at hg
  rw [e2] at he
  exact ⟨he, hg⟩

theorem take_one (b : Nat) (c : UInt8) (r : List UInt8) (bad : Bool) (w : World) (h : Rd w b ⟨(c :: r).toArray⟩ bad) :
    Calls Try.prog 113 #[.pointer (some ⟨b, 0, none⟩), .int .i64 1] w fun e w' => e = .returned (.string ⟨#[c]⟩) ∧ Goes w b ⟨r.toArray⟩ bad w' :=
  take_list b (c :: r) bad 1 (by omega) (by simp) w h

theorem take_one_empty (b : Nat) (bad : Bool) (w : World) (h : Rd w b ⟨#[]⟩ bad) :
    Calls Try.prog 113 #[.pointer (some ⟨b, 0, none⟩), .int .i64 1] w fun e w' => e = .returned (.string ⟨#[]⟩) ∧ Goes w b ⟨#[]⟩ true w' :=
  take_few b ⟨#[]⟩ bad 1 (by omega) (by decide) w h

/-- What a number is read as: the number, and what is left; none, if there is none in this form, or it is above 'most'. -/
def numRead (l : List UInt8) (most : Nat) : Option (Nat × List UInt8) :=
  match l with
  | [] => none
  | c :: r =>
    if r.length < c.toNat ∨ 8 < c.toNat ∨ (r.take c.toNat).head? = some 0 ∨ most < val (r.take c.toNat) then none
    else some (val (r.take c.toNat), r.drop c.toNat)

theorem numRead_cons (c : UInt8) (r : List UInt8) (m : Nat) : numRead (c :: r) m =
    if r.length < c.toNat ∨ 8 < c.toNat ∨ (r.take c.toNat).head? = some 0 ∨ m < val (r.take c.toNat) then none else some (val (r.take c.toNat), r.drop c.toNat) := rfl

/-- What a method leaves: nothing and an error; or the value, and what is left. -/
def ReadPost {α : Type} (z : Value) (f : α → Value) (o : Option (α × List UInt8)) (b : Nat) (bad : Bool) (w : World) (e : Ending) (w' : World) : Prop :=
  (o = none ∧ e = .returned z ∧ Goes w b ⟨#[]⟩ true w') ∨ ∃ v r, o = some (v, r) ∧ e = .returned (f v) ∧ Goes w b ⟨r.toArray⟩ bad w'

theorem num_empty (b : Nat) (bad : Bool) (most : Int) (w : World) (h : Rd w b ⟨#[]⟩ bad) :
    Calls Try.prog 68 #[.pointer (some ⟨b, 0, none⟩), .int .i64 most] w fun e w' => e = .returned (.int .i64 0) ∧ Goes w b ⟨#[]⟩ true w' := by
  go_enter Try.func68, Try.ntmps68
  go_wp2_with (go_at_call 113; refine (take_one_empty b bad _ h).mono ?_; rintro e w1 ⟨rfl, hg⟩)
  go_ret
  exact ⟨rfl, hg⟩

/-- the length's byte is there: what follows is no number -/
theorem num_wrong (b : Nat) (bad : Bool) (c : UInt8) (r : List UInt8) (most : Int) (w : World) (h : Rd w b ⟨(c :: r).toArray⟩ bad) (h1 : c.toNat ≤ r.length) (h0 : 1 ≤ c.toNat)
    (hnum : ∀ w, Calls Try.prog 114 #[.string ⟨(r.take c.toNat).toArray⟩] w fun e w' => e = .returned (.tuple #[.int .u64 0, .bool false]) ∧ w = w') :
    Calls Try.prog 68 #[.pointer (some ⟨b, 0, none⟩), .int .i64 most] w fun e w' => e = .returned (.int .i64 0) ∧ Goes w b ⟨#[]⟩ true w' := by
  go_enter Try.func68, Try.ntmps68
  go_wp2_with fail
  refine (take_one b c r bad _ h).mono ?_
  rintro e w1 ⟨rfl, hg⟩
  have hc0 : ∀ h, ((({ data := #[c] } : ByteArray)[0]'h).toNat : Int) = c.toNat := fun _ => rfl
  have hc : c.toNat < 256 := c.toNat_lt
  go_wp2_with fail
  refine (take_list b r bad c.toNat h0 h1 _ hg.1).mono ?_
  rintro e w2 ⟨rfl, hg2⟩
  go_wp2_with fail
  refine (hnum _).mono ?_
  rintro e w3 ⟨rfl, rfl⟩
  go_wp2_with (go_at_call 115; refine (fail_at b _ bad _ hg2.1).mono ?_; rintro e w4 ⟨rfl, hg4⟩)
  go_ret
  exact ⟨rfl, (hg.trans hg2).trans hg4⟩

/-- the length's byte is there, but not as many behind it -/
theorem num_cut (b : Nat) (bad : Bool) (c : UInt8) (r : List UInt8) (most : Int) (M : Nat) (hM : max most 0 = (M : Int)) (hMb : M ≤ 9223372036854775807) (w : World) (h : Rd w b ⟨(c :: r).toArray⟩ bad) (h1 : r.length < c.toNat) :
    Calls Try.prog 68 #[.pointer (some ⟨b, 0, none⟩), .int .i64 most] w fun e w' => e = .returned (.int .i64 0) ∧ Goes w b ⟨#[]⟩ true w' := by
  go_enter Try.func68, Try.ntmps68
  go_wp2_with fail
  refine (take_one b c r bad _ h).mono ?_
  rintro e w1 ⟨rfl, hg⟩
  have hc0 : ∀ h, ((({ data := #[c] } : ByteArray)[0]'h).toNat : Int) = c.toNat := fun _ => rfl
  have hc : c.toNat < 256 := c.toNat_lt
  go_wp2_with fail
  refine (take_few b ⟨r.toArray⟩ bad c.toNat (by omega) h1 _ hg.1).mono ?_
  rintro e w2 ⟨rfl, hg2⟩
  go_wp2_with fail
  refine (number_empty ⟨#[]⟩ rfl _).mono ?_
  rintro e w3 ⟨rfl, rfl⟩
  go_wp2
  go_ret
  exact ⟨rfl, hg.trans hg2⟩

/-- the number 0 -/
theorem num_zero (b : Nat) (bad : Bool) (c : UInt8) (r : List UInt8) (most : Int) (M : Nat) (hM : max most 0 = (M : Int)) (hMb : M ≤ 9223372036854775807) (w : World) (h : Rd w b ⟨(c :: r).toArray⟩ bad) (h1 : c.toNat = 0) :
    Calls Try.prog 68 #[.pointer (some ⟨b, 0, none⟩), .int .i64 most] w fun e w' => e = .returned (.int .i64 0) ∧ Goes w b ⟨r.toArray⟩ bad w' := by
  go_enter Try.func68, Try.ntmps68
  go_wp2_with fail
  refine (take_one b c r bad _ h).mono ?_
  rintro e w1 ⟨rfl, hg⟩
  have hc0 : ∀ h, ((({ data := #[c] } : ByteArray)[0]'h).toNat : Int) = 0 := fun _ => by show (c.toNat : Int) = 0; omega
  go_wp2_with fail
  refine (take_none b 0 (by decide) _).mono ?_
  rintro e w2 ⟨rfl, rfl⟩
  go_wp2_with fail
  refine (number_empty ⟨#[]⟩ rfl _).mono ?_
  rintro e w3 ⟨rfl, rfl⟩
  go_wp2
  go_ret
  exact ⟨rfl, hg⟩

/-- a number in the one form, above most -/
theorem num_above (b : Nat) (bad : Bool) (c : UInt8) (r : List UInt8) (most : Int) (M : Nat) (hM : max most 0 = (M : Int)) (hMb : M ≤ 9223372036854775807) (w : World) (h : Rd w b ⟨(c :: r).toArray⟩ bad) (h0 : 1 ≤ c.toNat) (h1 : c.toNat ≤ r.length)
    (v : Nat) (hnum : ∀ w, Calls Try.prog 114 #[.string ⟨(r.take c.toNat).toArray⟩] w fun e w' => e = .returned (.tuple #[.int .u64 v, .bool true]) ∧ w = w') (hv : M < v) :
    Calls Try.prog 68 #[.pointer (some ⟨b, 0, none⟩), .int .i64 most] w fun e w' => e = .returned (.int .i64 0) ∧ Goes w b ⟨#[]⟩ true w' := by
  have hv' : (M : Int) < (v : Int) := by omega
  go_enter Try.func68, Try.ntmps68
  go_wp2_with fail
  refine (take_one b c r bad _ h).mono ?_
  rintro e w1 ⟨rfl, hg⟩
  have hc0 : ∀ h, ((({ data := #[c] } : ByteArray)[0]'h).toNat : Int) = c.toNat := fun _ => rfl
  have hc : c.toNat < 256 := c.toNat_lt
  go_wp2_with fail
  refine (take_list b r bad c.toNat h0 h1 _ hg.1).mono ?_
  rintro e w2 ⟨rfl, hg2⟩
  go_wp2_with fail
  refine (hnum _).mono ?_
  rintro e w3 ⟨rfl, rfl⟩
  go_wp2_with (go_at_call 115; refine (fail_at b _ bad _ hg2.1).mono ?_; rintro e w4 ⟨rfl, hg4⟩)
  go_ret
  exact ⟨rfl, (hg.trans hg2).trans hg4⟩

/-- a number in the one form, up to most -/
theorem num_good (b : Nat) (bad : Bool) (c : UInt8) (r : List UInt8) (most : Int) (M : Nat) (hM : max most 0 = (M : Int)) (hMb : M ≤ 9223372036854775807) (w : World) (h : Rd w b ⟨(c :: r).toArray⟩ bad) (h0 : 1 ≤ c.toNat) (h1 : c.toNat ≤ r.length)
    (v : Nat) (hnum : ∀ w, Calls Try.prog 114 #[.string ⟨(r.take c.toNat).toArray⟩] w fun e w' => e = .returned (.tuple #[.int .u64 v, .bool true]) ∧ w = w') (hv : v ≤ M) :
    Calls Try.prog 68 #[.pointer (some ⟨b, 0, none⟩), .int .i64 most] w fun e w' => e = .returned (.int .i64 v) ∧ Goes w b ⟨(r.drop c.toNat).toArray⟩ bad w' := by
  have hv' : ¬ (M : Int) < (v : Int) := by omega
  go_enter Try.func68, Try.ntmps68
  go_wp2_with fail
  refine (take_one b c r bad _ h).mono ?_
  rintro e w1 ⟨rfl, hg⟩
  have hc0 : ∀ h, ((({ data := #[c] } : ByteArray)[0]'h).toNat : Int) = c.toNat := fun _ => rfl
  have hc : c.toNat < 256 := c.toNat_lt
  go_wp2_with fail
  refine (take_list b r bad c.toNat h0 h1 _ hg.1).mono ?_
  rintro e w2 ⟨rfl, hg2⟩
  go_wp2_with fail
  refine (hnum _).mono ?_
  rintro e w3 ⟨rfl, rfl⟩
  go_wp2
  go_ret
  exact ⟨rfl, hg.trans hg2⟩

/-- Num, of whatever is left -/
theorem num_read (b : Nat) (bad : Bool) (l : List UInt8) (most : Int) (hmost : most ≤ 9223372036854775807) (w : World) (h : Rd w b ⟨l.toArray⟩ bad) :
    Calls Try.prog 68 #[.pointer (some ⟨b, 0, none⟩), .int .i64 most] w (ReadPost (.int .i64 0) (fun v : Nat => .int .i64 (v : Int)) (numRead l most.toNat) b bad w) := by
  have hM : max most 0 = ((most.toNat : Nat) : Int) := by omega
  have hMb : most.toNat ≤ 9223372036854775807 := by omega
  match l, h with
  | [], h => exact (num_empty b bad most w h).mono fun e w' ⟨he, hg⟩ => .inl ⟨rfl, he, hg⟩
  | c :: r, h =>
    by_cases h1 : r.length < c.toNat
    · exact (num_cut b bad c r most _ hM hMb w h h1).mono fun e w' ⟨he, hg⟩ => .inl ⟨by simp [numRead, h1], he, hg⟩
    · by_cases h0 : c.toNat = 0
      · exact (num_zero b bad c r most _ hM hMb w h h0).mono fun e w' ⟨he, hg⟩ => .inr ⟨0, r, by simp [numRead, h0, val], he, hg⟩
      · have hlen : (r.take c.toNat).length = c.toNat := by simp; omega
        have hsz : (⟨(r.take c.toNat).toArray⟩ : ByteArray).size = c.toNat := hlen
        by_cases h8 : 8 < c.toNat
        · exact (num_wrong b bad c r most w h (by omega) (by omega) (number_long _ (by rw [hsz]; exact h8))).mono fun e w' ⟨he, hg⟩ => .inl ⟨by simp [numRead, h8], he, hg⟩
        · have hpos : 0 < (⟨(r.take c.toNat).toArray⟩ : ByteArray).size := by rw [hsz]; omega
          have hhead : (r.take c.toNat).head? = some ((⟨(r.take c.toNat).toArray⟩ : ByteArray)[0]'hpos) := by
            rw [List.head?_eq_getElem?, List.getElem?_eq_getElem (by omega)]; rfl
          by_cases hz : (⟨(r.take c.toNat).toArray⟩ : ByteArray)[0]'hpos = 0
          · rw [hz] at hhead
            exact (num_wrong b bad c r most w h (by omega) (by omega) (number_nought _ (by rw [hsz]; omega) hpos hz)).mono fun e w' ⟨he, hg⟩ => .inl ⟨by rw [numRead_cons, if_pos (.inr (.inr (.inl hhead)))], he, hg⟩
          · have hnum := number_some _ (by rw [hsz]; omega) hpos hz
            have hne : ¬ (r.take c.toNat).head? = some 0 := by rw [hhead]; simpa using hz
            by_cases hv : most.toNat < val (r.take c.toNat)
            · exact (num_above b bad c r most _ hM hMb w h (by omega) (by omega) _ hnum hv).mono fun e w' ⟨he, hg⟩ => .inl ⟨by rw [numRead_cons, if_pos (.inr (.inr (.inr hv)))], he, hg⟩
            · exact (num_good b bad c r most _ hM hMb w h (by omega) (by omega) _ hnum (by simpa using hv)).mono fun e w' ⟨he, hg⟩ => .inr ⟨_, _, by rw [numRead_cons, if_neg (not_or.2 ⟨h1, not_or.2 ⟨h8, not_or.2 ⟨hne, hv⟩⟩⟩)], he, hg⟩

end Go.Proofs.Ytcebnoapgceodaa
