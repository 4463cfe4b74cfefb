/-
  ord.Parts: all texts of a key.
-/
import Derived.Test.YtacphlceggbfcaaOCut
namespace Go.Proofs.Ytacphlceggbfcaa
open Go.RowKit Go.Proofs.Ytacphlceggbfcaa.rowB Go.Proofs.Ytacphlceggbfcaa.sRow

theorem oK_peel : ∀ (a b : List L8) (r : L8), oK a ++ r = oK b → ∃ c, r = oK c
  | [], b, r, h => ⟨b, by rw [← h]; rfl⟩
  | x :: a, [], r, h => by
    have h1 := oT_pos x
    have h2 := congrArg List.length h
    rw [oK_cons, List.append_assoc, List.length_append] at h2
    have h3 : (oK ([] : List L8)).length = 0 := rfl
    omega
  | x :: a, y :: b, r, h => by
    rw [oK_cons, oK_cons, List.append_assoc] at h
    exact oK_peel a b r (oT_inj _ _ _ _ h).2

theorem oK_count (ps : List L8) : 2 * ps.length ≤ (oK ps).length := by
  induction ps with
  | nil => simp
  | cons x ps ih =>
    have := oT_pos x
    rw [oK_cons, List.length_append, List.length_cons]
    omega

theorem cutO_size {k s r : L8} (h : cutO k = some (s, r)) : r.length < k.length := by
  have := cutO_back k.length k s r (Nat.le_refl _) h
  have h1 := oT_pos s
  rw [this, List.length_append]
  omega

def PartsPost (k : L8) (w : World) (e : Ending) (w' : World) : Prop :=
  Below w.heap.size w w' ∧ (((∀ ps, k ≠ oK ps) ∧ e = .returned (.tuple #[.slice none 0 0, .int .i64 2])) ∨
    ∃ (ps : List ByteArray) (a : Option Addr) (c : Nat), k = oK (txts ps) ∧ e = .returned (.tuple #[.slice a ps.length c, .int .i64 0]) ∧ Ss w.heap.size w' (.slice a ps.length c) ps)

set_option maxHeartbeats 2000000 in
theorem parts_any (key : ByteArray) (hk : key.size ≤ 1000000) (w : World) :
    Calls Try.prog 33 #[.string key] w (PartsPost key.data.toList w) := by
  have hkl : key.data.toList.length = key.size := by rw [Array.length_toList]; rfl
  have HKL := Lib.hid hkl
  clear hkl
  go_enter Try.func33, Try.ntmps33
  go_wp2
  go_loopw [0, 4] (fun s v wr => ∃ (key' : ByteArray) (ps : List ByteArray), s = .string key' ∧ key.data.toList = oK (txts ps) ++ key'.data.toList ∧ Ss w.heap.size wr v ps ∧ Below w.heap.size w wr) (fun s _ _ => match s with | .string b => b.size | _ => 0)
  case atStart => exact ⟨key, [], rfl, rfl, ss_nil _ _, Below.refl _ _⟩
  case round =>
    obtain ⟨k, ps, rfl, hkey, hown, hb⟩ := hrel
    have hz := hb.size
    have hlen : (oK (txts ps)).length + k.size ≤ 1000000 := by
      have := congrArg List.length hkey
      rw [HKL.out, List.length_append] at this
      have h2 : k.data.toList.length = k.size := by rw [Array.length_toList]; rfl
      omega
    have hcnt := oK_count (txts ps)
    rw [txts_length] at hcnt
    have HK := Lib.hid hkey
    clear hkey
    by_cases he : k = ⟨#[]⟩
    · subst he
      obtain ⟨a, c, rfl⟩ := hown.form
      have hk0 : Hid (key.data.toList = oK (txts ps)) := Lib.hid (by rw [HK.out]; simp)
      go_wp2
      go_ret2
      exact ⟨hb, .inr ⟨ps, a, c, hk0.out, rfl, hown⟩⟩
    · have hne0 : k.data.toList ≠ [] := fun h => he (txt_inj (t := ⟨#[]⟩) h)
      have hne1 : k.toList.isEmpty = false := by
        rw [Lib.toList_data]
        cases hh : k.data.toList with
        | nil => exact absurd hh hne0
        | cons c r => rfl
      have hne2 : (k.toList == []) = false := by
        rw [beq_eq_false_iff_ne, Lib.toList_data]; exact hne0
      have HNE := Lib.hid hne0
      have hcut := cut_any k (by omega) wr
      clear he hne0
      go_wp2_with fail
      refine hcut.mono ?_
      rintro e w2 ⟨hb2', ⟨hn, rfl⟩ | ⟨s, r, hs, rfl⟩⟩
      · have hb2 := hb.trans (hb2'.mono hz)
        have hno : Hid (∀ qs, key.data.toList ≠ oK qs) := Lib.hid (fun qs e => by
          rw [HK.out] at e
          obtain ⟨c, hc⟩ := oK_peel _ _ _ e
          cases c with
          | nil => exact HNE.out hc
          | cons x c =>
            rw [hc, oK_cons, cutO_oT] at hn
            cases hn)
        clear hn
        go_wp2
        go_ret2
        exact ⟨hb2, .inl ⟨hno.out, rfl⟩⟩
      · have hb2 := hb.trans (hb2'.mono hz)
        have hz2 := hb2.size
        have hown2 : Ss w.heap.size w2 u4 ps := World.ownsRow.kept (row := none) hown ⟨hb2'.os, hb2'.tape, hb2'.output, hb2'.size, fun j hj _ => hb2'.block j hj⟩ (by
          by_cases hv : u4.ownBlock = none
          · exact .inl hv
          · exact .inr hv)
        have hback := cutO_back _ _ _ _ (Nat.le_refl _) hs
        have hrs := cutO_size hs
        have HB := Lib.hid hback
        have HRS := Lib.hid hrs
        have hown3 : Ss w.heap.size (w2.alloc (.cells #[.string ⟨s.toArray⟩] 9)) u4 ps := World.ownsRow.alloc hown2 _
        have hrow3 : SRow (w2.alloc (.cells #[.string ⟨s.toArray⟩] 9)) (some ⟨w2.heap.size, 0, none⟩) [⟨s.toArray⟩] := .inr ⟨w2.heap.size, 0, rfl, by simp, fun i hi => by
          obtain rfl : i = 0 := by simpa using hi
          simp⟩
        have hb3 := hb2.alloc hz2 (.cells #[.string ⟨s.toArray⟩] 9)
        have hz3 := hb3.size
        clear hback hrs hs hown2 hb2' hown hb
        go_wp2_with (at_builtin; refine wpList_app_s _ rfl (.tmp 18) (.tmp 20) rfl w.heap.size u4 ps rfl hown3 _ 1 1 [⟨s.toArray⟩] hrow3 rfl (fun h => by cases h) rfl (by omega) hz3 ?_; intro v4 w4 hown4 hup4)
        have hb4 := hb3.trans (Ss.upBelow hup4 hown3 hz3)
        go_roundw
        case rel =>
          refine ⟨⟨r.toArray⟩, ps ++ [⟨s.toArray⟩], rfl, ?_, hown4, hb4⟩
          rw [HK.out, HB.out]
          simp [txts, txt, oK]
        case measure =>
          have h1 := HRS.out
          have h2 : (⟨r.toArray⟩ : ByteArray).size = r.length := rfl
          have h3 : k.data.toList.length = k.size := by rw [Array.length_toList]; rfl
          simp only [h2]
          omega

end Go.Proofs.Ytacphlceggbfcaa
