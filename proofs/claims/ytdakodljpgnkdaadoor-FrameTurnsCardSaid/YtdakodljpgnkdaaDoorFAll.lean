/-
  frame.All: the frames with which bytes begin, one behind the other.
-/
import Derived.Test.YtdakodljpgnkdaaDoorFHd
import Derived.Test.YtdakodljpgnkdaaDoorTRow
import Derived.WalkMore
namespace Go.Proofs.YtdakodljpgnkdaaDoor
open Go.RowKit Go.Proofs.YtdakodljpgnkdaaDoor.tRow

/-- frames one behind the other -/
def flat : List ByteArray → List UInt8
  | [] => []
  | t :: ts => frm t.data.toList ++ flat ts

theorem flat_append : ∀ (a b : List ByteArray), flat (a ++ b) = flat a ++ flat b
  | [], _ => rfl
  | t :: a, b => by rw [List.cons_append, flat, flat, flat_append a b, List.append_assoc]

theorem flat_one (t : ByteArray) : flat [t] = frm t.data.toList := by simp [flat]
theorem flat_snoc (a : List ByteArray) (t : ByteArray) : flat (a ++ [t]) = flat a ++ frm t.data.toList := by rw [flat_append, flat_one]

theorem flat_long : ∀ (ts : List ByteArray), 12 * ts.length ≤ (flat ts).length
  | [] => Nat.le_refl _
  | t :: ts => by
    have := flat_long ts
    rw [flat, List.length_append, frm_length, List.length_cons]
    omega

def small (ts : List ByteArray) : Prop := ∀ t ∈ ts, t.size ≤ 262144

theorem bytes_eq {s t : ByteArray} (h : s.data.toList = t.data.toList) : s = t := by apply ByteArray.ext; exact Array.toList_inj.1 h
theorem bytes_len (s : ByteArray) : s.data.toList.length = s.size := by rw [Array.length_toList]; rfl

/-- Frames ahead of whatever stands there are among all that are told. -/
theorem flat_first : ∀ (us ts : List ByteArray) (r' r : List UInt8), small us → small ts → (∀ t, ¬ Opens r t) → flat us ++ r' = flat ts ++ r → ∃ vs, ts = us ++ vs ∧ r' = flat vs ++ r
  | [], ts, r', r, _, _, _, h => ⟨ts, rfl, h⟩
  | u :: us, [], r', r, hu, _, hno, h => by
    refine absurd ?_ (hno u.data.toList)
    refine ⟨by rw [bytes_len]; exact hu u (by simp), flat us ++ r', ?_⟩
    have h' : frm u.data.toList ++ flat us ++ r' = r := h
    rw [← h', List.append_assoc]
  | u :: us, t :: ts, r', r, hu, ht, hno, h => by
    rw [flat, flat, List.append_assoc, List.append_assoc] at h
    have h1 : Opens (frm u.data.toList ++ (flat us ++ r')) u.data.toList := opens_frm _ _ (by rw [bytes_len]; exact hu u (by simp))
    have h2 : Opens (frm u.data.toList ++ (flat us ++ r')) t.data.toList := by rw [h]; exact opens_frm _ _ (by rw [bytes_len]; exact ht t (by simp))
    obtain rfl := bytes_eq (h1.one h2)
    have h3 := List.append_cancel_left h
    obtain ⟨vs, e1, e2⟩ := flat_first us ts r' r (fun x hx => hu x (by simp [hx])) (fun x hx => ht x (by simp [hx])) hno h3
    exact ⟨vs, by rw [e1]; rfl, e2⟩

/-- A frame cut off is none. -/
theorem no_part (t : List UInt8) (j : Nat) (hj : j < t.length + 12) (ht : t.length ≤ 262144) (u : List UInt8) : ¬ Opens ((frm t).take j) u := by
  intro h
  have hl := h.few
  rw [List.length_take, frm_length] at hl
  obtain ⟨hu, z, e⟩ := h
  have h1 : Opens (frm t) u := ⟨hu, z ++ (frm t).drop j, by rw [← List.append_assoc, ← e, List.take_append_drop]⟩
  have := h1.one (opens_whole t ht)
  subst this
  omega

theorem no_none (u : List UInt8) : ¬ Opens [] u := by
  intro h
  have := h.few
  simp at this

/-- what All tells of bytes -/
def Frames (l : List UInt8) (ts : List ByteArray) : Prop := small ts ∧ ∃ r, l = flat ts ++ r ∧ ∀ t, ¬ Opens r t

theorem Frames.of {l r : List UInt8} {us ts : List ByteArray} (h : Frames l ts) (hu : small us) (hr : ∀ t, ¬ Opens r t) (e : l = flat us ++ r) : ts = us := by
  obtain ⟨ht, r', e', hr'⟩ := h
  rw [e] at e'
  obtain ⟨vs, e1, e2⟩ := flat_first us ts r r' hu ht hr' e'
  cases vs with
  | nil => rw [e1, List.append_nil]
  | cons v vs =>
    refine absurd ?_ (hr v.data.toList)
    rw [e2, flat, List.append_assoc]
    exact opens_frm _ _ (by rw [bytes_len]; exact ht v (by rw [e1]; simp))

theorem Frames.more {l r : List UInt8} {us ts : List ByteArray} (h : Frames l ts) (hu : small us) (e : l = flat us ++ r) : ∃ vs, ts = us ++ vs := by
  obtain ⟨ht, r', e', hr'⟩ := h
  rw [e] at e'
  obtain ⟨vs, e1, _⟩ := flat_first us ts r r' hu ht hr' e'
  exact ⟨vs, e1⟩

def AllPost (l : List UInt8) (w : World) (e : Ending) (w' : World) : Prop :=
  Below w.heap.size w w' ∧ ∃ (ts : List ByteArray) (a : Option Addr) (c : Nat), Frames l ts ∧ e = .returned (.tuple #[.slice a ts.length c, .int .i64 ((flat ts).length : Nat)]) ∧ Ss w.heap.size w' (.slice a ts.length c) ts

set_option maxHeartbeats 2000000 in
theorem all_any (b : ByteArray) (hb : b.size ≤ 100000) (w : World) (hT : Tab w) :
    Calls Tryd.prog 12 #[.string b] w (AllPost b.data.toList w) := by
  have h0 := hT.lt
  have HL := Lib.hid (bytes_len b)
  go_enter Tryd.func12, Tryd.ntmps12
  go_wp2
  go_step3
  go_wp2
  go_step3
  go_wp2
  go_loopw [4, 5] (fun v c wr => ∃ (ts : List ByteArray) (k : Nat) (r : List UInt8), c = .int .i64 k ∧ k = (flat ts).length ∧ b.data.toList = flat ts ++ r ∧ small ts ∧ Ss w.heap.size wr v ts ∧ Below w.heap.size w wr) (fun _ c _ => b.size - (intOf c).toNat)
  case atStart => exact ⟨[], 0, b.data.toList, rfl, rfl, rfl, (fun _ h => by cases h), ss_nil _ _, Below.refl _ _⟩
  case round =>
    obtain ⟨ts, k, r, rfl, hk, hbr, hsm, hown, hbl⟩ := hrel
    have hz := hbl.size
    have hTr := hT.below hbl h0
    have hkl : k ≤ b.size := by rw [← HL.out, hbr, List.length_append]; omega
    have hk' : (k : Int) ≤ (b.size : Int) := by omega
    have hX : (b.extract k b.size).data.toList = r := by
      rw [Lib.extract_data, hbr, hk, List.drop_left, List.take_of_length_le]
      rw [← HL.out, hbr, List.length_append]; omega
    have hcl : ts.length ≤ 100000 := by have := flat_long ts; omega
    have hg := get_any (b.extract k b.size) wr hTr
    rw [hX] at hg
    have HK := Lib.hid hk
    have HB := Lib.hid hbr
    clear hk hbr hX
    go_wp2_with fail
    refine hg.mono ?_
    rintro e w2 ⟨hb2', ⟨hn, rfl⟩ | ⟨t, ht, rfl⟩⟩
    · have hb2 := hbl.trans (hb2'.mono hz)
      have hown2 : Ss w.heap.size w2 u4 ts := World.ownsRow.kept (row := none) hown ⟨hb2'.os, hb2'.tape, hb2'.output, hb2'.size, fun j hj _ => hb2'.block j hj⟩ (by
        by_cases hv : u4.ownBlock = none
        · exact .inl hv
        · exact .inr hv)
      obtain ⟨a, c, rfl⟩ := hown2.form
      have HN := Lib.hid hn
      clear hn hg hb2' hown
      go_wp2
      try rw [Exit.noGoto_ret]
      go_ret2
      exact ⟨hb2, ts, a, c, ⟨hsm, r, HB.out, HN.out⟩, by rw [← HK.out]; rfl, hown2⟩
    · have hb2 := hbl.trans (hb2'.mono hz)
      have hz2 := hb2.size
      have hown2 : Ss w.heap.size w2 u4 ts := World.ownsRow.kept (row := none) hown ⟨hb2'.os, hb2'.tape, hb2'.output, hb2'.size, fun j hj _ => hb2'.block j hj⟩ (by
        by_cases hv : u4.ownBlock = none
        · exact .inl hv
        · exact .inr hv)
      have hown3 : Ss w.heap.size (w2.alloc (.cells #[.string ⟨t.toArray⟩] 9)) u4 ts := World.ownsRow.alloc hown2 _
      have hrow3 : SRow (w2.alloc (.cells #[.string ⟨t.toArray⟩] 9)) (some ⟨w2.heap.size, 0, none⟩) [⟨t.toArray⟩] := .inr ⟨w2.heap.size, 0, rfl, by simp, fun i hi => by
        obtain rfl : i = 0 := by simpa using hi
        simp⟩
      have hb3 := hb2.alloc hz2 (.cells #[.string ⟨t.toArray⟩] 9)
      have hz3 := hb3.size
      have hfew := ht.few
      have hrl : r.length + k = b.size := by rw [← HL.out, HB.out, List.length_append, HK.out]; omega
      have hpos : (((12 + t.length : Nat) : Int) == 0) = false := by rw [beq_eq_false_iff_ne]; omega
      have HT := Lib.hid ht
      obtain ⟨m, hm⟩ : ∃ m, m = 12 + t.length := ⟨_, rfl⟩
      have HM := Lib.hid hm
      rw [← hm] at hpos ⊢
      have hm1 : (m : Int) ≤ 100000 := by omega
      have hk2 : (k : Int) ≤ 100000 := by omega
      have hm2 : 12 ≤ m := by omega
      have hm3 : k + m ≤ b.size := by omega
      clear ht hg hown2 hb2' hown hbl hfew hm hrl
      go_wp2_with (at_builtin; refine wpList_app_s _ rfl (.tmp 16) (.tmp 18) rfl w.heap.size u4 ts rfl hown3 _ 1 1 [⟨t.toArray⟩] hrow3 rfl (fun h => by cases h) rfl (by omega) hz3 ?_; intro v4 w4 hown4 hup4)
      have hb4 := hb3.trans (Ss.upBelow hup4 hown3 hz3)
      go_roundw
      case rel =>
        obtain ⟨hts, z, hz⟩ := HT.out
        refine ⟨ts ++ [⟨t.toArray⟩], k + m, z, by go_num, ?_, ?_, ?_, hown4, hb4⟩
        · rw [flat_snoc, List.length_append, frm_length, ← HK.out, HM.out]
          show _ = k + (t.length + 12)
          omega
        · rw [flat_snoc, List.append_assoc, HB.out, hz]
        · intro x hx
          rcases List.mem_append.1 hx with h | h
          · exact hsm x h
          · simp at h
            subst h
            rw [size_arr]; exact hts
      case measure => simp [intOf]; omega

end Go.Proofs.YtdakodljpgnkdaaDoor
