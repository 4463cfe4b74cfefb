/-
  store's laws: what several of them want: few, the length of a list's writes, a list cut off in front, how an owned list lies.
-/
import Derived.Test.YtcebnoapgceodaaStFrM
import Derived.Test.YtcebnoapgceodaaStHd
import Derived.StillTailTactics
namespace Go.Proofs.Ytcebnoapgceodaa.storeFrees
open Go.RowKit Go.Proofs.Ytcebnoapgceodaa.tC Go.Proofs.Ytcebnoapgceodaa.sT

set_option linter.unusedVariables false
set_option linter.unusedSimpArgs false

theorem few_any (a : Option Addr) (len cap : Nat) (W : World) : Calls Try.prog 12 #[.slice a len cap] W fun e W' => e = .returned (.bool (decide ((len : Int) ≤ 30))) ∧ W = W' := by
  go_enter Try.func12, Try.ntmps12
  go_wp2
  go_ret
  exact ⟨rfl, rfl⟩

theorem listC_12 (first : Int) (wss : List (List Wr)) : ∀ c ∈ listC first wss, c.ws.length ≤ 12 := fun c hc => by
  obtain ⟨i, hi, hci⟩ := List.getElem_of_mem hc
  rw [listC_len] at hi
  have h := listC_get first wss i hi
  rw [List.getElem?_eq_getElem (by rw [listC_len]; exact hi)] at h
  rw [← hci, Option.some.inj h]
  exact someW_len _

/-- a list of commits, cut off in front -/
theorem cis_drop {W : World} {a : Option Addr} {cs : List CmM} (h : CIs W a cs) {lc k : Nat} (hl : cs.length ≤ lc) {a2 : Option Addr} (ha : (a = none ∧ a2 = none) ∨ ∃ g o o', a = some ⟨g, o, none⟩ ∧ a2 = some ⟨g, o', none⟩ ∧ (k < lc → o' = o + k * 3) ∧ (lc = k → o' ≤ o + k * 3)) : CIs W a2 (cs.drop k) := by
  by_cases hk : cs.length ≤ k
  · exact .inl (List.drop_eq_nil_of_le hk)
  · rcases h with h | ⟨b, off, e, hlt, hv⟩
    · rw [h] at hk; simp at hk
    · rcases ha with ⟨e1, _⟩ | ⟨g, o, o', e1, e2, h3, _⟩
      · rw [e1] at e; cases e
      · rw [e] at e1
        injection e1 with e1
        injection e1 with e3 e4
        subst e3; subst e4
        refine .inr ⟨b, o', e2, hlt, fun i hi => ?_⟩
        rw [List.length_drop] at hi
        rw [List.getElem_drop, h3 (by omega), show off + k * 3 + i * 3 = off + (k + i) * 3 by omega]
        exact hv (k + i) (by omega)

/-- how a list that is owned lies -/
def LiesAt (la : Option Addr) (n lc : Nat) : Prop := (la = none → lc = 0) ∧ (∀ a, la = some a → ∃ g o, a = ⟨g, o, none⟩) ∧ n ≤ lc ∧ lc ≤ maxLen
theorem lies_own {n0 : Nat} {W : World} {a : Option Addr} {c : Nat} {cs : List CmM} (h : CmsOwn n0 W (.slice a cs.length c) cs) : LiesAt a cs.length c := by
  obtain ⟨wvs, h1, _⟩ := h
  rcases h1.1.2 with ⟨e, _⟩ | ⟨g, cap, cur, e, _, _, h2, h3, _⟩
  · injection e with e0 e1 e2
    subst e0
    exact ⟨fun _ => e2, fun a h => (by cases h), (by omega), (by unfold maxLen; omega)⟩
  · injection e with e0 e1 e2
    subst e0; subst e2
    exact ⟨fun h => by (cases h), fun a h => by injection h with h; exact ⟨g, 0, h.symm⟩, h2, h3⟩

theorem neq_self (x : Wr) (W : World) : (binOp .neq 48 (.agg #[.string x.key, .string x.val, .bool x.gone]) (.agg #[.string x.key, .string x.val, .bool x.gone])).run Try.prog W = .ok (.bool false) W := by
  go_simp

end Go.Proofs.Ytcebnoapgceodaa.storeFrees
