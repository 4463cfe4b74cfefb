/-
  OrdKeys: for every two lists of texts the law's function returns true, and writes nothing that was there.
-/
import Derived.Test.YtcmiflkalgpdjaaOParts
import Derived.Test.YtcmiflkalgpdjaaBelow
namespace Go.Proofs.Ytcmiflkalgpdjaa.ordKeys
open Go.RowKit Go.Proofs.Ytcmiflkalgpdjaa.rowB Go.Proofs.Ytcmiflkalgpdjaa.sRow

theorem cmpK_append : ∀ (x a b : List L8), cmpK (x ++ a) (x ++ b) = cmpK a b
  | [], a, b => rfl
  | c :: x, a, b => by rw [List.cons_append, List.cons_append, cmpK, if_pos rfl, cmpK_append x a b]

theorem cmpK_skip {a b : List L8} {j : Nat} (h : a.take j = b.take j) : cmpK a b = cmpK (a.drop j) (b.drop j) := by
  have := cmpK_append (a.take j) (a.drop j) (b.drop j)
  rw [List.take_append_drop, h, List.take_append_drop] at this
  exact this

theorem cmpK_at {a b : List L8} {j : Nat} (h : a.take j = b.take j) (ha : j < a.length) (hb : j < b.length) (hne : a[j] ≠ b[j]) : cmpK a b = cmpL a[j] b[j] := by
  rw [cmpK_skip h, List.drop_eq_getElem_cons ha, List.drop_eq_getElem_cons hb, cmpK, if_neg hne]

theorem cmpK_len {a b : List L8} {j : Nat} (h : a.take j = b.take j) (hj : (j = a.length ∧ j ≤ b.length) ∨ (j = b.length ∧ j ≤ a.length)) : cmpK a b = min 1 (max (-1) ((a.length : Int) - (b.length : Int))) := by
  rw [cmpK_skip h]
  have la : (a.drop j).length = a.length - j := List.length_drop
  have lb : (b.drop j).length = b.length - j := List.length_drop
  rcases hj with ⟨h1, h2⟩ | ⟨h1, h2⟩
  · have e1 : a.drop j = [] := List.eq_nil_of_length_eq_zero (by omega)
    rw [e1]
    cases hb : b.drop j with
    | nil => rw [hb] at lb; simp at lb; simp only [cmpK]; omega
    | cons y b' => rw [hb] at lb; simp at lb; simp only [cmpK]; omega
  · have e1 : b.drop j = [] := List.eq_nil_of_length_eq_zero (by omega)
    rw [e1]
    cases ha : a.drop j with
    | nil => rw [ha] at la; simp at la; simp only [cmpK]; omega
    | cons y a' => rw [ha] at la; simp at la; simp only [cmpK]; omega

theorem txts_take (ps : List ByteArray) (j : Nat) : (txts ps).take j = txts (ps.take j) := by simp [txts]

theorem sign_any (n : Int) (w : World) :
    Calls Try.prog 13 #[.int .i64 n] w fun e w' => e = .returned (.int .i64 (min 1 (max (-1) n))) ∧ w = w' := by
  go_enter Try.func13, Try.ntmps13
  go_wp2
  go_ret
  exact ⟨rfl, rfl⟩

theorem walk_long (a : Option Addr) (la ca : Nat) (b : Option Addr) (lb cb : Nat) (w : World) (h : 10 < la ∨ 10 < lb) :
    Calls Try.prog 3 #[.slice a la ca, .slice b lb cb] w fun e w' => e = .returned (.bool true) ∧ Below w.heap.size w w' := by
  by_cases h1 : 10 < la
  · have h1' : (10 : Int) < (la : Int) := by omega
    clear h
    go_enter Try.func3, Try.ntmps3
    go_wp2_with (go_at_call 10; refine (ohead_any _).mono ?_; rintro e w1 ⟨rfl, hb1⟩)
    go_ret
    exact ⟨rfl, hb1⟩
  · have h1' : ¬ (10 : Int) < (la : Int) := by omega
    have h2' : (10 : Int) < (lb : Int) := by omega
    clear h
    go_enter Try.func3, Try.ntmps3
    go_wp2_with (go_at_call 10; refine (ohead_any _).mono ?_; rintro e w1 ⟨rfl, hb1⟩)
    go_ret
    exact ⟨rfl, hb1⟩

/-- 'a[1:]' of a row of texts that came in -/
theorem tail_row {w : World} {a : Option Addr} {ca : Nat} {p : ByteArray} {ps : List ByteArray} (h : Came w a (p :: ps).length ca (p :: ps)) :
    ∃ a' c', (∀ W, (Instr.slice 22 (.slice a (p :: ps).length ca) (some (.int .i64 1)) none none).run Try.prog W = .ok (.slice a' ps.length c') W) ∧ SRow w a' ps := by
  have helem : Try.prog.elem 22 = 9 := by kernel_rfl
  have ht : Try.prog.underlying 22 = some (.slice (Try.prog.elem 22)) := by rw [helem]; exact Try.underlying22
  obtain ⟨hrow, _, hle, _, _, _⟩ := h
  rcases hrow with h | ⟨b, off, rfl, hb, hc⟩
  · cases h
  · have hrun : ∀ W, (Instr.slice 22 (.slice (some ⟨b, off, none⟩) (p :: ps).length ca) (some (.int .i64 1)) none none).run Try.prog W = .ok (sliced (some ⟨b, off, none⟩) 1 (p :: ps).length ca 1) W := fun W => by
      rw [run_slice_l (P := Try.prog) W 22 _ _ _ ht .i64 _ (by omega) (by simp; omega), helem, Try.sizeOf9]
      simp [Result.andThen]
    by_cases hcap : ca = 1
    · have hps : ps = [] := List.eq_nil_of_length_eq_zero (by simp at hle; omega)
      subst hps hcap
      refine ⟨some ⟨b, off, none⟩, 0, fun W => ?_, .inl rfl⟩
      rw [hrun W]
      rfl
    · refine ⟨some ⟨b, off + 1, none⟩, ca - 1, fun W => ?_, .inr ⟨b, off + 1, rfl, hb, fun i hi => ?_⟩⟩
      · rw [hrun W]
        unfold sliced Addr.add
        simp [hcap]
      · have := hc (i + 1) (by simp; omega)
        rw [List.getElem_cons_succ] at this
        rw [← this]
        congr 2
        omega

theorem tail_row' {w : World} {a : Option Addr} {ca : Nat} {ps : List ByteArray} (h : Came w a ps.length ca ps) (h0 : 0 < ps.length) :
    ∃ a' c', (∀ W, (Instr.slice 22 (.slice a ps.length ca) (some (.int .i64 1)) none none).run Try.prog W = .ok (.slice a' (ps.length - 1) c') W) ∧ SRow w a' ps.tail := by
  match ps, h, h0 with
  | p :: ps, h, _ => exact tail_row h

theorem cut_first (ps : List ByteArray) (h0 : 0 < ps.length) : cutO (oK (txts ps) ++ [7]) = some (txt ps[0], oK (txts ps.tail) ++ [7]) := by
  match ps, h0 with
  | p :: ps, _ =>
    have e : oK (txts (p :: ps)) ++ [7] = oT (txt p) ++ (oK (txts ps) ++ [7]) := by
      rw [show oK (txts (p :: ps)) = oT (txt p) ++ oK (txts ps) from rfl, List.append_assoc]
    rw [e, cutO_oT]
    rfl

theorem app7 (l : L8) : ((⟨l.toArray⟩ : ByteArray) ++ ⟨#[7]⟩).data.toList = l ++ [7] := by simp

theorem app7' (l : L8) : (⟨(l ++ [7]).toArray⟩ : ByteArray) = ⟨l.toArray⟩ ++ ⟨#[7]⟩ := by
  apply ByteArray.ext; apply Array.toList_inj.1; simp

theorem oK_tail_le (ps : List ByteArray) : (oK (txts ps.tail)).length ≤ (oK (txts ps)).length := by
  cases ps with
  | nil => exact Nat.le_refl _
  | cons p ps =>
    rw [show oK (txts (p :: ps)) = oT (txt p) ++ oK (txts ps) from rfl, List.length_append]
    simp

end Go.Proofs.Ytcmiflkalgpdjaa.ordKeys
