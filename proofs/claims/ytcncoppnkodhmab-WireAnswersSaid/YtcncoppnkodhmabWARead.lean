/-
  wire: ReadAnswer, plainly; readTexts' contract.
-/
import Derived.Test.YtcncoppnkodhmabWAEnc
namespace Go.Proofs.Ytcncoppnkodhmab
open Go.RowKit bsK rdS Go.Proofs.Ytcncoppnkodhmab.tRow

set_option linter.unusedVariables false
set_option linter.unusedSimpArgs false

/-- so many texts, as long as each can be read -/
def txL : Nat → L → Option (List ByteArray × L)
  | 0, l => some ([], l)
  | k + 1, l => match txL k l with
    | none => none
    | some (ps, r) => match textRead r 9223372036854775807 with
      | none => none
      | some (t, r') => some (ps ++ [⟨t.toArray⟩], r')

theorem txL_next {k : Nat} {l r : L} {ps : List ByteArray} (h : txL k l = some (ps, r)) : txL (k + 1) l = match textRead r 9223372036854775807 with | none => none | some (t, r') => some (ps ++ [⟨t.toArray⟩], r') := by
  show (match txL k l with | none => none | some (ps, r) => _) = _
  rw [h]
theorem txL_back : ∀ (k : Nat) {l r : L} {ps : List ByteArray}, txL k l = some (ps, r) → l = ps.flatMap octT ++ r ∧ ps.length = k
  | 0, l, r, ps, h => by
    have h : some ([], l) = some (ps, r) := h
    injection h with h
    injection h with h1 h2
    subst h1 h2
    exact ⟨rfl, rfl⟩
  | k + 1, l, r, ps, h => by
    cases hk : txL k l with
    | none =>
      have : txL (k + 1) l = none := by
        show (match txL k l with | none => none | some (ps, r) => _) = _
        rw [hk]
      rw [this] at h
      cases h
    | some p =>
      obtain ⟨qs, s⟩ := p
      have h2 := txL_next hk
      rw [h] at h2
      cases ht : textRead s 9223372036854775807 with
      | none => rw [ht] at h2; cases h2
      | some u =>
        obtain ⟨t, r'⟩ := u
        rw [ht] at h2
        simp only [Option.some.injEq, Prod.mk.injEq] at h2
        obtain ⟨rfl, rfl⟩ := h2
        obtain ⟨h3, h4⟩ := txL_back k hk
        have h5 := (textRead_back ht).1
        refine ⟨?_, by rw [List.length_append, h4]; rfl⟩
        rw [h3, h5, List.flatMap_append]
        simp [octT, List.append_assoc]
        rfl
theorem octT_pos (s : ByteArray) : 1 ≤ (octT s).length := by
  unfold octT
  rw [List.length_append, octN_length]
  omega
theorem flat_pos : ∀ ps : List ByteArray, ps.length ≤ (ps.flatMap octT).length
  | [] => Nat.le_refl _
  | s :: r => by
    have h1 := flat_pos r
    have h2 := octT_pos s
    rw [List.flatMap_cons, List.length_append, List.length_cons]
    omega
theorem txL_len {k : Nat} {l r : L} {ps : List ByteArray} (h : txL k l = some (ps, r)) : ps.length + r.length ≤ l.length := by
  obtain ⟨h1, h2⟩ := txL_back k h
  have h3 := flat_pos ps
  rw [h1, List.length_append]
  omega
theorem txL_none {k n : Nat} {l : L} (h : txL k l = none) (hn : k ≤ n) : txL n l = none := by
  induction n with
  | zero => rw [show k = 0 by omega] at h; exact h
  | succ n ih =>
    by_cases e : k = n + 1
    · rw [← e]; exact h
    · show (match txL n l with | none => none | some (ps, r) => _) = _
      rw [ih (by omega)]
theorem txL_laid : ∀ (ps : List ByteArray) (hs : ∀ s ∈ ps, s.size < 2 ^ 62) (r : L) (k : Nat) (hk : k ≤ ps.length), txL k (ps.flatMap octT ++ r) = some (ps.take k, (ps.drop k).flatMap octT ++ r)
  | ps, hs, r, 0, _ => rfl
  | ps, hs, r, k + 1, hk => by
    have ih := txL_laid ps hs r k (by omega)
    rw [txL_next ih]
    have hd : ps.drop k = ps[k] :: ps.drop (k + 1) := List.drop_eq_getElem_cons (by omega)
    have hz := hs ps[k] (List.getElem_mem (by omega))
    rw [hd, List.flatMap_cons, List.append_assoc]
    have := textRead_laid ps[k] 9223372036854775807 ((ps.drop (k + 1)).flatMap octT ++ r) (by omega)
    rw [if_pos (by omega)] at this
    rw [this, List.take_succ_eq_append_getElem (by omega)]

/-- what ReadAnswer reads -/
def readAn (l : L) : Option (Nat × Nat × List ByteArray) :=
  match numRead l 1000 with
  | none => none
  | some (e, l1) => match numRead l1 1099511627776 with
    | none => none
    | some (n, l2) => match numRead l2 9223372036854775807 with
      | none => none
      | some (k, l3) => match txL k l3 with
        | some (ps, []) => some (e, n, ps)
        | _ => none

theorem readAn_back {l : L} {e n : Nat} {ps : List ByteArray} (h : readAn l = some (e, n, ps)) : l = octAn e n ps ∧ e ≤ 1000 ∧ n ≤ 1099511627776 := by
  unfold readAn at h
  split at h
  · cases h
  rename_i e' l1 h1
  split at h
  · cases h
  rename_i n' l2 h2
  split at h
  · cases h
  rename_i k l3 h3
  split at h
  · rename_i ps' h4
    simp only [Option.some.injEq, Prod.mk.injEq] at h
    obtain ⟨rfl, rfl, rfl⟩ := h
    obtain ⟨h5, h6⟩ := txL_back k h4
    have b1 := (numRead_back h1).1
    have b2 := (numRead_back h2).1
    have b3 := (numRead_back h3).1
    refine ⟨?_, (numRead_len h1).2, (numRead_len h2).2⟩
    rw [b1, b2, b3, h5, ← h6]
    unfold octAn
    simp
  · cases h
theorem readAn_laid {e n : Nat} {ps : List ByteArray} (he : e ≤ 1000) (hn : n ≤ 1099511627776) (hp : ps.length < 2 ^ 62) (hs : ∀ s ∈ ps, s.size < 2 ^ 62) : readAn (octAn e n ps) = some (e, n, ps) := by
  unfold readAn octAn
  rw [numRead_laid e 1000 _ (by omega), if_pos he]
  simp only
  rw [numRead_laid n 1099511627776 _ (by omega), if_pos hn]
  simp only
  rw [numRead_laid ps.length 9223372036854775807 _ (by omega), if_pos (by omega)]
  simp only
  have := txL_laid ps hs [] ps.length (Nat.le_refl _)
  rw [List.append_nil, List.take_length, List.drop_length] at this
  rw [this]
  rfl

end Go.Proofs.Ytcncoppnkodhmab
