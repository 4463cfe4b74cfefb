/-
  ord.Text, ord.Int: what they lay behind a slice of the call's own.
-/
import Derived.Test.YtacphlceggbfcaaOPure
import Derived.Test.YtacphlceggbfcaaOwn
import Derived.Test.YtacphlceggbfcaaKeys
import Derived.Test.YtacphlceggbfcaaShelf
import Derived.Lib.Hide
import Derived.WalkLawsBesides
import Derived.WalkSpells
namespace Go.Proofs.Ytacphlceggbfcaa
open Go.RowKit

theorem esc_take (l : L8) (k : Nat) (h : k < l.length) : esc (l.take (k + 1)) = esc (l.take k) ++ (if l[k] = 0 then [0, 255] else [l[k]]) := by
  rw [List.take_succ_eq_append_getElem h, esc_append]
  by_cases e : l[k] = 0 <;> simp [esc, e]

set_option maxHeartbeats 1000000 in
theorem otext_any (B : Nat) (v : Value) (l : List UInt8) (s : ByteArray) (w : World) (hl : l.length + 2 * s.size + 2 < 140737488355000) (hB : B ≤ w.heap.size) (hown : Bs 5 B w v l) :
    Calls Try.prog 56 #[v, .string s] w (LaidPost B v (l ++ oT s.data.toList) w) := by
  have hsz : s.data.toList.length = s.size := by rw [Array.length_toList]; rfl
  go_enter Try.func56, Try.ntmps56
  go_wp2
  go_loopw [0, 8] (fun x c wr => ∃ k : Nat, k ≤ s.size ∧ c = .int .i64 k ∧ Bs 5 B wr x (l ++ esc (s.data.toList.take k)) ∧ Up w v wr x) (fun _ c _ => s.size - (intOf c).toNat)
  case atStart => exact ⟨0, Nat.zero_le _, rfl, by simpa [esc] using hown, Up.refl w v⟩
  case round =>
    obtain ⟨k, hk, rfl, hownk, hupk⟩ := hrel
    have hBk := hupk.1.size
    have hlk : (l ++ esc (s.data.toList.take k)).length ≤ l.length + 2 * k := by
      have := esc_length (s.data.toList.take k)
      rw [List.length_append]
      simp at this ⊢
      omega
    have hE := Lib.hid hsz
    by_cases hlt : k < s.size
    · have htk := esc_take s.data.toList k (by omega)
      have hc : s.data.toList[k]'(by omega) = s[k]'hlt := rfl
      rw [hc] at htk
      generalize hcc : s[k]'hlt = c at htk
      have hcb := c.toNat_lt
      by_cases h0 : c = 0
      · subst h0
        rw [if_pos rfl] at htk
        have hz : (((s[k]'hlt).toNat : Int) == 0) = true := by rw [hcc]; rfl
        have hz' : ((s[k]'hlt).toNat : Int) = 0 := by rw [hcc]; rfl
        have HT := Lib.hid htk
        clear htk hcc hc hsz
        go_wp2_with (first
          | (at_builtin; refine wpList_app1 _ rfl (.tmp 11) (.tmp 15) 44 rfl 5 B Try.underlying44 infoB _ _ rfl hownk _ _ rfl (by omega) (by omega) (by omega) (by omega) ?_; intro v2 w2 hown2 hup2)
          | (at_builtin; refine wpList_app1 _ rfl (.tmp 21) (.tmp 22) 44 rfl 5 B Try.underlying44 infoB _ _ rfl hown2 _ _ rfl (by decide) (by decide) (by simp only [List.length_append, List.length_cons, List.length_nil] at hlk ⊢; omega) (by have := hup2.1.size; omega) ?_; intro v3 w3 hown3 hup3))
        go_roundw
        case rel =>
          refine ⟨k + 1, by omega, by go_num, ?_, (hupk.trans hup2).trans hup3⟩
          rw [HT.out]
          simpa using hown3
        case measure => simp [intOf]; omega
      · rw [if_neg h0] at htk
        have hz' : ((s[k]'hlt).toNat : Int) ≠ 0 := by
          rw [hcc]; intro e; exact h0 (u8_toNat_eq.2 (by simpa using e))
        have hz : (((s[k]'hlt).toNat : Int) == 0) = false := by rw [beq_eq_false_iff_ne]; exact hz'
        have hcx : UInt8.ofNat ((s[k]'hlt).toNat : Int).toNat = c := by rw [← hcc]; simp
        have HC := Lib.hid hcx
        have hsb := (s[k]'hlt).toNat_lt
        have HT := Lib.hid htk
        clear htk hcc hc hsz hcx
        go_wp2_with (at_builtin; refine wpList_app1 _ rfl (.tmp 11) (.tmp 15) 44 rfl 5 B Try.underlying44 infoB _ _ rfl hownk _ _ rfl (by omega) (by omega) (by omega) (by omega) ?_; intro v2 w2 hown2 hup2)
        go_roundw
        case rel =>
          refine ⟨k + 1, by omega, by go_num, ?_, hupk.trans hup2⟩
          rw [HT.out]
          rw [HC.out] at hown2
          simpa using hown2
        case measure => simp [intOf]; omega
    · have hge : ¬ (k : Int) < (s.size : Int) := by omega
      have e : s.data.toList.take k = s.data.toList := List.take_of_length_le (by omega)
      rw [e] at hownk hlk
      have hle : (l ++ esc s.data.toList).length + ([0, 1] : List UInt8).length < 140737488355328 := by simp at hlk ⊢; omega
      clear hlt hsz e
      go_wp2_with (at_builtin; refine wpList_appN _ rfl (.tmp 25) (.tmp 26) 44 rfl 5 B Try.underlying44 infoB _ _ rfl hownk [0, 1] _ rfl _ rfl hle (by omega) ?_; intro v2 w2 hown2 hup2)
      go_ret
      refine ⟨v2, rfl, ?_, hupk.trans hup2⟩
      unfold oT
      rw [← List.append_assoc]
      exact hown2

end Go.Proofs.Ytacphlceggbfcaa
