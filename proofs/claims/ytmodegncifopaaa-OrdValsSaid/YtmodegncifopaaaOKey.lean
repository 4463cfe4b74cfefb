/-
  ord.Key: the key of a row of texts; and the law's head.
-/
import Derived.Test.YtmodegncifopaaaOText
namespace Go.Proofs.Ytmodegncifopaaa
open Go.RowKit

/-- 'string(v)' of what is owned. -/
theorem conv_bs {P : Program} (E B : Nat) (w : World) (src dst : TypeId) (hs : P.underlying src = some (.slice E)) (he : P.underlying E = some (.int .u8)) (hd : P.underlying dst = some .string) (v : Value) (l : List UInt8) (hown : Bs E B w v l) :
    (convert src dst v).run P w = .ok (.string ⟨l.toArray⟩) w := by
  rcases hown.2 with ⟨rfl, h0⟩ | ⟨g, cap, cur, rfl, _⟩
  · have : l = [] := List.eq_nil_of_length_eq_zero h0
    subst this
    exact run_convert_bytes_nil (P := P) w src E hs he 0 0 dst hd
  · exact run_convert_bytes_back (P := P) w src dst E _ cap l hs he hd fun j hj => World.ownsRow.cells hown (g := g) rfl j _ (by simp [Lib.byteCells, hj])

/-- A row of texts, wherever it lies. -/
def SRow (w : World) (A : Option Addr) (ps : List ByteArray) : Prop :=
  ps = [] ∨ ∃ b off, A = some ⟨b, off, none⟩ ∧ b < w.heap.size ∧ ∀ i (h : i < ps.length), w.cell? ⟨b, off + i, none⟩ = some (.string ps[i])

theorem SRow.below {w w' : World} {A : Option Addr} {ps : List ByteArray} (h : SRow w A ps) (hb : Below w.heap.size w w') : SRow w' A ps := by
  rcases h with h | ⟨b, off, e, hlt, hc⟩
  · exact .inl h
  · exact .inr ⟨b, off, e, Nat.lt_of_lt_of_le hlt hb.size, fun i hi => (hb.cell (p := ⟨b, off + i, none⟩) hlt).trans (hc i hi)⟩

def txt (s : ByteArray) : L8 := s.data.toList
def txts (ps : List ByteArray) : List L8 := ps.map txt
theorem txt_length (s : ByteArray) : (txt s).length = s.size := by unfold txt; rw [Array.length_toList]; rfl
theorem txts_length (ps : List ByteArray) : (txts ps).length = ps.length := by simp [txts]
theorem txt_inj {s t : ByteArray} (h : txt s = txt t) : s = t := by
  apply ByteArray.ext; exact Array.toList_inj.1 h

theorem esc_ge (a : L8) : a.length ≤ (esc a).length := by
  induction a with
  | nil => simp
  | cons c a ih => by_cases h : c = 0 <;> simp [esc, h] <;> omega
theorem oT_ge (a : L8) : a.length + 2 ≤ (oT a).length := by have := esc_ge a; simp [oT]; omega

theorem oK_take (ps : List ByteArray) (k : Nat) (h : k < ps.length) : oK (txts (ps.take (k + 1))) = oK (txts (ps.take k)) ++ oT (txt ps[k]) := by
  unfold txts
  rw [List.take_succ_eq_append_getElem h, List.map_append, oK_append]
  simp [oK]

theorem oK_take_le (ps : List ByteArray) (k : Nat) : (oK (txts (ps.take k))).length ≤ (oK (txts ps)).length := by
  have h : oK (txts ps) = oK (txts (ps.take k)) ++ oK (txts (ps.drop k)) := by
    rw [← oK_append]; congr 1; unfold txts; rw [← List.map_append, List.take_append_drop]
  rw [h, List.length_append]; omega

set_option maxHeartbeats 1000000 in
theorem key_some (b off cap : Nat) (ps : List ByteArray) (w : World) (hbw : b < w.heap.size) (hc : ∀ i (h : i < ps.length), w.cell? ⟨b, off + i, none⟩ = some (.string ps[i])) (hl : (oK (txts ps)).length ≤ 1000000) (hn : ps.length ≤ 1000000) :
    Calls Try.prog 60 #[.slice (some ⟨b, off, none⟩) ps.length cap] w fun e w' => e = .returned (.string ⟨(oK (txts ps)).toArray⟩) ∧ Below w.heap.size w w' := by
  have hC := Lib.hid hc
  have CV := Lib.hid (fun (w' : World) (v : Value) (l : List UInt8) (h : Bs 5 w.heap.size w' v l) => conv_bs (P := Try.prog) 5 w.heap.size w' 58 9 Try.underlying58 Try.underlying5 Try.underlying9 v l h)
  clear hc
  go_enter Try.func60, Try.ntmps60
  go_wp2
  go_loopw [3, 8] (fun x c wr => ∃ k : Nat, k ≤ ps.length ∧ c = .int .i64 k ∧ Bs 5 w.heap.size wr x (oK (txts (ps.take k))) ∧ Below w.heap.size w wr) (fun _ c _ => ps.length - (intOf c).toNat)
  case atStart => exact ⟨0, Nat.zero_le _, rfl, Bs.nil _ _ _, Below.refl _ _⟩
  case round =>
    obtain ⟨k, hk, rfl, hown, hb⟩ := hrel
    have hz := hb.size
    have hlk := oK_take_le ps k
    by_cases hlt : k < ps.length
    · have hck := (hb.cell (p := ⟨b, off + k, none⟩) hbw).trans (hC.out k hlt)
      have htk := oK_take ps k hlt
      have hlk2 := oK_take_le ps (k + 1)
      have hot := oT_ge (txt ps[k])
      rw [htk, List.length_append] at hlk2
      rw [txt_length] at hot
      generalize hp : ps[k] = p at hck htk hot hlk2
      have HT := Lib.hid htk
      clear htk hp
      go_wp2_with fail
      refine (otext_any w.heap.size _ _ p wr (by omega) hz hown).mono ?_
      rintro e w2 ⟨v2, rfl, hown2, hup2⟩
      have hb2 := hb.trans (hup2.below hown hz)
      clear hup2 hown hb hck
      go_wp2
      go_roundw
      case rel => exact ⟨k + 1, by omega, by go_num, by rw [HT.out]; exact hown2, hb2⟩
      case measure => simp [intOf]; omega
    · obtain rfl : k = ps.length := by omega
      have hge : ¬ (ps.length : Int) < (ps.length : Int) := by omega
      rw [List.take_length] at hown
      have hcv := CV.out wr _ _ hown
      clear hlt
      go_wp2
      go_ret
      exact ⟨rfl, hb⟩

theorem key_none (A : Option Addr) (cap : Nat) (w : World) :
    Calls Try.prog 60 #[.slice A 0 cap] w fun e w' => e = .returned (.string ⟨#[]⟩) ∧ w = w' := by
  have hcv := conv_bs (P := Try.prog) 5 w.heap.size w 58 9 Try.underlying58 Try.underlying5 Try.underlying9 _ [] (Bs.nil _ _ _)
  go_enter Try.func60, Try.ntmps60
  go_wp2
  refine wp_loop_rounds 1 ?_
  rw [rounds_succ]
  go_wp2
  go_ret
  exact ⟨rfl, rfl⟩

/-- ord.Key, of any row of texts -/
theorem key_any (A : Option Addr) (cap : Nat) (ps : List ByteArray) (w : World) (h : SRow w A ps) (hl : (oK (txts ps)).length ≤ 1000000) (hn : ps.length ≤ 1000000) :
    Calls Try.prog 60 #[.slice A ps.length cap] w fun e w' => e = .returned (.string ⟨(oK (txts ps)).toArray⟩) ∧ Below w.heap.size w w' := by
  rcases h with rfl | ⟨b, off, rfl, hlt, hc⟩
  · exact (key_none A cap w).mono fun e w' ⟨he, hw⟩ => ⟨he, hw ▸ Below.refl _ _⟩
  · exact key_some b off cap ps w hlt hc hl hn

set_option maxHeartbeats 1000000 in
/-- mailbaglaw03.head -/
theorem ohead_any (w : World) : Calls Try.prog 33 #[] w fun e w' => e = .returned (.bool true) ∧ Below w.heap.size w w' := by
  have CV := Lib.hid (fun (w' : World) (v : Value) (h : Bs 5 w.heap.size w' v [0, 255, 0, 1]) => conv_bs (P := Try.prog) 5 w.heap.size w' 58 9 Try.underlying58 Try.underlying5 Try.underlying9 v _ h)
  have hkey : ∀ w : World, Calls Try.prog 60 #[.slice (some ⟨w.heap.size, 0, none⟩) 1 1] (w.alloc (.cells #[.string ⟨#[97]⟩] 9)) fun e w' => e = .returned (.string ⟨#[97, 0, 1]⟩) ∧ Below (w.alloc (.cells #[.string ⟨#[97]⟩] 9)).heap.size (w.alloc (.cells #[.string ⟨#[97]⟩] 9)) w' := fun w => by
    refine key_any _ 1 [⟨#[97]⟩] (w.alloc (.cells #[.string ⟨#[97]⟩] 9)) (.inr ⟨w.heap.size, 0, rfl, by simp, fun i hi => ?_⟩) (by decide) (by decide)
    obtain rfl : i = 0 := by simpa using hi
    simp
  go_enter Try.func33, Try.ntmps33
  go_wp2_with fail
  refine (hkey w).mono ?_
  rintro e w1 ⟨rfl, hb1⟩
  have hb0 : Below w.heap.size w w1 := ((Below.refl _ w).alloc (Nat.le_refl _) _).trans (hb1.mono (by simp))
  have hz := hb0.size
  clear hkey hb1
  go_wp2_with fail
  refine (otext_any w.heap.size (.slice none 0 0) [] ⟨#[0]⟩ w1 (by decide) hz (Bs.nil _ _ _)).mono ?_
  rintro e w2 ⟨v2, rfl, hown2, hup2⟩
  have hcv := CV.out w2 v2 hown2
  have hb2 := hb0.trans (hup2.below (Bs.nil 5 w.heap.size w1) hz)
  clear hup2 hown2
  go_wp2
  go_ret
  exact ⟨rfl, hb2⟩

end Go.Proofs.Ytmodegncifopaaa
