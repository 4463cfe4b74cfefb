/-
  ord.Key: the key of a row of texts.
-/
import Derived.Test.YtacphlceggbfcaaOText
namespace Go.Proofs.Ytacphlceggbfcaa
open Go.RowKit

/-- A row of texts, wherever it lies. -/
def SRow (w : World) (A : Option Addr) (ps : List ByteArray) : Prop :=
  ps = [] ∨ ∃ b off, A = some ⟨b, off, none⟩ ∧ b < w.heap.size ∧ ∀ i (h : i < ps.length), w.cell? ⟨b, off + i, none⟩ = some (.string ps[i])

theorem SRow.below {w w' : World} {A : Option Addr} {ps : List ByteArray} (h : SRow w A ps) (hb : Below w.heap.size w w') : SRow w' A ps := by
  rcases h with h | ⟨b, off, e, hlt, hc⟩
  · exact .inl h
  · exact .inr ⟨b, off, e, Nat.lt_of_lt_of_le hlt hb.size, fun i hi => (hb.cell (p := ⟨b, off + i, none⟩) hlt).trans (hc i hi)⟩

def txt (s : ByteArray) : L8 := s.data.toList
def txts (ps : List ByteArray) : List L8 := ps.map txt
theorem txt_length (s : ByteArray) : (txt s).length = s.size := by unfold txt; rw [Array.length_toList]; rfl
theorem txts_length (ps : List ByteArray) : (txts ps).length = ps.length := by simp [txts]
theorem txt_inj {s t : ByteArray} (h : txt s = txt t) : s = t := by
  apply ByteArray.ext; exact Array.toList_inj.1 h

theorem esc_ge (a : L8) : a.length ≤ (esc a).length := by
  induction a with
  | nil => simp
  | cons c a ih => by_cases h : c = 0 <;> simp [esc, h] <;> omega
theorem oT_ge (a : L8) : a.length + 2 ≤ (oT a).length := by have := esc_ge a; simp [oT]; omega

theorem oK_take (ps : List ByteArray) (k : Nat) (h : k < ps.length) : oK (txts (ps.take (k + 1))) = oK (txts (ps.take k)) ++ oT (txt ps[k]) := by
  unfold txts
  rw [List.take_succ_eq_append_getElem h, List.map_append, oK_append]
  simp [oK]

theorem oK_take_le (ps : List ByteArray) (k : Nat) : (oK (txts (ps.take k))).length ≤ (oK (txts ps)).length := by
  have h : oK (txts ps) = oK (txts (ps.take k)) ++ oK (txts (ps.drop k)) := by
    rw [← oK_append]; congr 1; unfold txts; rw [← List.map_append, List.take_append_drop]
  rw [h, List.length_append]; omega

set_option maxHeartbeats 1000000 in
theorem key_some (b off cap : Nat) (ps : List ByteArray) (w : World) (hbw : b < w.heap.size) (hc : ∀ i (h : i < ps.length), w.cell? ⟨b, off + i, none⟩ = some (.string ps[i])) (hl : (oK (txts ps)).length ≤ 1000000) (hn : ps.length ≤ 1000000) :
    Calls Try.prog 36 #[.slice (some ⟨b, off, none⟩) ps.length cap] w fun e w' => e = .returned (.string ⟨(oK (txts ps)).toArray⟩) ∧ Below w.heap.size w w' := by
  have hC := Lib.hid hc
  have CV := Lib.hid (fun (w' : World) (v : Value) (l : List UInt8) (h : Bs 5 w.heap.size w' v l) => conv_bs (P := Try.prog) 5 w.heap.size w' 44 9 Try.underlying44 Try.underlying5 Try.underlying9 v l h)
  clear hc
  go_enter Try.func36, Try.ntmps36
  go_wp2
  go_loopw [3, 8] (fun x c wr => ∃ k : Nat, k ≤ ps.length ∧ c = .int .i64 k ∧ Bs 5 w.heap.size wr x (oK (txts (ps.take k))) ∧ Below w.heap.size w wr) (fun _ c _ => ps.length - (intOf c).toNat)
  case atStart => exact ⟨0, Nat.zero_le _, rfl, Bs.nil _ _ _, Below.refl _ _⟩
  case round =>
    obtain ⟨k, hk, rfl, hown, hb⟩ := hrel
    have hz := hb.size
    have hlk := oK_take_le ps k
    by_cases hlt : k < ps.length
    · have hck := (hb.cell (p := ⟨b, off + k, none⟩) hbw).trans (hC.out k hlt)
      have htk := oK_take ps k hlt
      have hlk2 := oK_take_le ps (k + 1)
      have hot := oT_ge (txt ps[k])
      rw [htk, List.length_append] at hlk2
      rw [txt_length] at hot
      generalize hp : ps[k] = p at hck htk hot hlk2
      have HT := Lib.hid htk
      clear htk hp
      go_wp2_with fail
      refine (otext_any w.heap.size _ _ p wr (by omega) hz hown).mono ?_
      rintro e w2 ⟨v2, rfl, hown2, hup2⟩
      have hb2 := hb.trans (hup2.below hown hz)
      clear hup2 hown hb hck
      go_wp2
      go_roundw
      case rel => exact ⟨k + 1, by omega, by go_num, by rw [HT.out]; exact hown2, hb2⟩
      case measure => simp [intOf]; omega
    · obtain rfl : k = ps.length := by omega
      have hge : ¬ (ps.length : Int) < (ps.length : Int) := by omega
      rw [List.take_length] at hown
      have hcv := CV.out wr _ _ hown
      clear hlt
      go_wp2
      go_ret
      exact ⟨rfl, hb⟩

theorem key_none (A : Option Addr) (cap : Nat) (w : World) :
    Calls Try.prog 36 #[.slice A 0 cap] w fun e w' => e = .returned (.string ⟨#[]⟩) ∧ w = w' := by
  have hcv := conv_bs (P := Try.prog) 5 w.heap.size w 44 9 Try.underlying44 Try.underlying5 Try.underlying9 _ [] (Bs.nil _ _ _)
  go_enter Try.func36, Try.ntmps36
  go_wp2
  refine wp_loop_rounds 1 ?_
  rw [rounds_succ]
  go_wp2
  go_ret
  exact ⟨rfl, rfl⟩

/-- ord.Key, of any row of texts -/
theorem key_any (A : Option Addr) (cap : Nat) (ps : List ByteArray) (w : World) (h : SRow w A ps) (hl : (oK (txts ps)).length ≤ 1000000) (hn : ps.length ≤ 1000000) :
    Calls Try.prog 36 #[.slice A ps.length cap] w fun e w' => e = .returned (.string ⟨(oK (txts ps)).toArray⟩) ∧ Below w.heap.size w w' := by
  rcases h with rfl | ⟨b, off, rfl, hlt, hc⟩
  · exact (key_none A cap w).mono fun e w' ⟨he, hw⟩ => ⟨he, hw ▸ Below.refl _ _⟩
  · exact key_some b off cap ps w hlt hc hl hn

end Go.Proofs.Ytacphlceggbfcaa
