/-
  The laws of the order of values.
-/
import Derived.Test.YtacphlceggbfcaaValCmp2
namespace Go.Proofs.Ytacphlceggbfcaa

def Three (n : Int) : Prop := n = -1 ∨ n = 0 ∨ n = 1
/-- what an order does to three of which the first is given -/
def Tr {α : Type} (f : α → α → Int) (a b c : α) : Prop := (f a b = 0 → f a c = f b c) ∧ (f b c = 0 → f a c = f a b) ∧ (f a b = -1 → f b c = -1 → f a c = -1) ∧ (f a b = 1 → f b c = 1 → f a c = 1)

def lexL {α : Type} (f : α → α → Int) : List α → List α → Int
  | [], [] => 0
  | [], _ :: _ => -1
  | _ :: _, [] => 1
  | a :: l, b :: m => if f a b ≠ 0 then f a b else lexL f l m

theorem cmpVs_lex : ∀ (a b : List V), cmpVs a b = lexL V.cmp a b
  | [], [] => by rw [cmpVs, lexL]
  | [], _ :: _ => by rw [cmpVs, lexL]
  | _ :: _, [] => by rw [cmpVs, lexL]
  | a :: l, b :: m => by rw [cmpVs, lexL, cmpVs_lex l m]
theorem cmpFs_lex : ∀ (a b : List Fd), cmpFs a b = lexL cmpFd a b
  | [], [] => by rw [cmpFs, lexL]
  | [], _ :: _ => by rw [cmpFs, lexL]
  | _ :: _, [] => by rw [cmpFs, lexL]
  | a :: l, b :: m => by rw [cmpFs_cons, lexL, cmpFs_lex l m]

theorem lexL_three {α : Type} {f : α → α → Int} : ∀ (l m : List α), (∀ x ∈ l, ∀ y, Three (f x y)) → Three (lexL f l m)
  | [], [], _ => .inr (.inl rfl)
  | [], _ :: _, _ => .inl rfl
  | _ :: _, [], _ => .inr (.inr rfl)
  | a :: l, b :: m, h => by
    rw [lexL]
    split
    · exact h a (by simp) b
    · exact lexL_three l m fun x hx => h x (by simp [hx])

theorem lexL_anti {α : Type} {f : α → α → Int} : ∀ (l m : List α), (∀ x ∈ l, ∀ y, f y x = -f x y) → lexL f m l = -lexL f l m
  | [], [], _ => rfl
  | [], _ :: _, _ => rfl
  | _ :: _, [], _ => rfl
  | a :: l, b :: m, h => by
    have h1 := h a (by simp) b
    rw [lexL, lexL, lexL_anti l m fun x hx => h x (by simp [hx]), h1]
    by_cases h2 : f a b = 0
    · rw [if_neg (by omega), if_neg (by omega)]
    · rw [if_pos (by omega), if_pos (by omega)]

theorem lexL_tr {α : Type} {f : α → α → Int} (h3 : ∀ x y, Three (f x y)) : ∀ (l m n : List α), (∀ x ∈ l, ∀ y z, Tr f x y z) → Tr (lexL f) l m n
  | [], [], n, _ => by unfold Tr; simp [lexL]
  | [], b :: m, [], _ => by unfold Tr; simp [lexL]
  | [], b :: m, c :: n, _ => by unfold Tr; simp [lexL]
  | a :: l, [], [], _ => by unfold Tr; simp [lexL]
  | a :: l, [], c :: n, _ => by unfold Tr; simp [lexL]
  | a :: l, b :: m, [], _ => by unfold Tr; simp [lexL]
  | a :: l, b :: m, c :: n, h => by
    obtain ⟨t1, t2, t3, t4⟩ := h a (by simp) b c
    obtain ⟨s1, s2, s3, s4⟩ := lexL_tr h3 l m n fun x hx => h x (by simp [hx])
    have e1 : lexL f (a :: l) (b :: m) = if f a b ≠ 0 then f a b else lexL f l m := rfl
    have e2 : lexL f (b :: m) (c :: n) = if f b c ≠ 0 then f b c else lexL f m n := rfl
    have e3 : lexL f (a :: l) (c :: n) = if f a c ≠ 0 then f a c else lexL f l n := rfl
    unfold Tr
    rw [e1, e2, e3]
    rcases h3 a b with ab | ab | ab <;> rcases h3 b c with bc | bc | bc
    · have ac := t3 ab bc; rw [ab, bc, ac]; simp
    · have ac := t2 bc; rw [ac, ab, bc]; simp
    · rw [ab, bc]; simp
    · have ac := t1 ab; rw [ac, ab, bc]; simp
    · have ac := t1 ab; rw [ac, ab, bc]; simp; exact ⟨s1, s2, s3, s4⟩
    · have ac := t1 ab; rw [ac, ab, bc]; simp
    · rw [ab, bc]; simp
    · have ac := t2 bc; rw [ac, ab, bc]; simp
    · have ac := t4 ab bc; rw [ab, bc, ac]; simp

theorem cmpI_anti (a b : Int) : cmpI b a = -cmpI a b := by
  unfold cmpI
  by_cases h1 : a < b
  · rw [if_pos h1, if_neg (by omega), if_pos h1]; rfl
  · by_cases h2 : b < a
    · rw [if_pos h2, if_neg h1, if_pos h2]
    · rw [if_neg h2, if_neg h1, if_neg h1, if_neg h2]; rfl
theorem cmpI_three' (a b : Int) : Three (cmpI a b) := by unfold cmpI Three; split <;> (try split) <;> simp
theorem cmpI_zero {a b : Int} : cmpI a b = 0 ↔ a = b := by unfold cmpI; split <;> (try split) <;> simp <;> omega
theorem cmpI_neg {a b : Int} : cmpI a b = -1 ↔ a < b := by unfold cmpI; split <;> (try split) <;> simp <;> omega
theorem cmpI_pos {a b : Int} : cmpI a b = 1 ↔ b < a := by unfold cmpI; split <;> (try split) <;> simp <;> omega
theorem cmpI_tr (a b c : Int) : Tr cmpI a b c := by
  refine ⟨fun h => ?_, fun h => ?_, fun h1 h2 => ?_, fun h1 h2 => ?_⟩
  · rw [cmpI_zero.1 h]
  · rw [cmpI_zero.1 h]
  · rw [cmpI_neg] at *; omega
  · rw [cmpI_pos] at *; omega

theorem cmpL_neg {a b : L8} : cmpL a b = -1 ↔ a < b := by
  unfold cmpL
  by_cases h : a < b
  · simp [h]
  · by_cases h2 : b < a <;> simp [h, h2]
theorem cmpL_pos {a b : L8} : cmpL a b = 1 ↔ b < a := by
  unfold cmpL
  by_cases h : a < b
  · simp [h, lt_asym h]
  · by_cases h2 : b < a <;> simp [h, h2]
theorem cmpL_anti (a b : L8) : cmpL b a = -cmpL a b := by
  rcases lt_tri a b with h | h | h
  · rw [cmpL_lt h, cmpL_gt h]; rfl
  · rw [h, cmpL_self]; rfl
  · rw [cmpL_lt h, cmpL_gt h]
theorem cmpL_tr (a b c : L8) : Tr cmpL a b c := by
  refine ⟨fun h => ?_, fun h => ?_, fun h1 h2 => ?_, fun h1 h2 => ?_⟩
  · rw [cmpL_zero.1 h]
  · rw [cmpL_zero.1 h]
  · rw [cmpL_neg] at *; exact List.lt_trans h1 h2
  · rw [cmpL_pos] at *; exact List.lt_trans h2 h1

theorem cmpYes_laws (a b c : Bool) : Three (cmpYes a b) ∧ cmpYes b a = -cmpYes a b ∧ Tr cmpYes a b c := by
  unfold Three Tr
  cases a <;> cases b <;> cases c <;> simp [cmpYes]

theorem cmpB_zero {a b : ByteArray} : cmpL a.data.toList b.data.toList = 0 ↔ a = b := by
  rw [cmpL_zero]
  exact ⟨fun h => ByteArray.ext (Array.toList_inj.1 h), fun h => by rw [h]⟩

theorem cmpFd_eq (a b : Fd) : cmpFd a b = if cmpL a.1.data.toList b.1.data.toList ≠ 0 then cmpL a.1.data.toList b.1.data.toList else V.cmp a.2 b.2 := by
  unfold cmpFd
  by_cases h : a.1 = b.1
  · rw [if_neg (fun g => g h), if_neg (fun g => g (cmpB_zero.2 h))]
  · rw [if_pos h, if_pos (fun g => h (cmpB_zero.1 g))]

/-- first by a key, then by what is beside it: an order still -/
theorem pair_tr {α κ : Type} {f : κ → κ → Int} {g : α → α → Int} (h3 : ∀ x y, Three (f x y)) (k : α → κ) (a b c : α) (hf : Tr f (k a) (k b) (k c)) (hg : f (k a) (k b) = 0 → f (k b) (k c) = 0 → Tr g a b c) :
    Tr (fun x y => if f (k x) (k y) ≠ 0 then f (k x) (k y) else g x y) a b c := by
  obtain ⟨t1, t2, t3, t4⟩ := hf
  unfold Tr
  dsimp only
  rcases h3 (k a) (k b) with ab | ab | ab <;> rcases h3 (k b) (k c) with bc | bc | bc
  · have ac := t3 ab bc; rw [ab, bc, ac]; simp
  · have ac := t2 bc; rw [ac, ab, bc]; simp
  · rw [ab, bc]; simp
  · have ac := t1 ab; rw [ac, ab, bc]; simp
  · have ac := t1 ab
    obtain ⟨s1, s2, s3, s4⟩ := hg ab bc
    rw [ac, ab, bc]; simp; exact ⟨s1, s2, s3, s4⟩
  · have ac := t1 ab; rw [ac, ab, bc]; simp
  · rw [ab, bc]; simp
  · have ac := t2 bc; rw [ac, ab, bc]; simp
  · have ac := t4 ab bc; rw [ab, bc, ac]; simp

/-- the order of two values of one kind -/
def subC (a b : V) : Int := if a.kind = 1 then cmpYes a.yes b.yes else if a.kind = 2 then cmpI a.num b.num else if a.kind = 3 then cmpL a.text.data.toList b.text.data.toList else if a.kind = 4 then lexL V.cmp a.list b.list else if a.kind = 5 then lexL cmpFd a.fields b.fields else 0

theorem cmp_eq (a b : V) : a.cmp b = if cmpI a.kind b.kind ≠ 0 then cmpI a.kind b.kind else subC a b := by
  obtain ⟨k, y, n, t, l, f⟩ := a
  rw [V.cmp]
  show _ = if cmpI k b.kind ≠ 0 then cmpI k b.kind else subC (V.mk k y n t l f) b
  by_cases h : k = b.kind
  · rw [if_neg (c := k ≠ b.kind) (fun g => g h), if_neg (c := cmpI k b.kind ≠ 0) (fun g => g (cmpI_zero.2 h))]
    unfold subC
    rw [cmpVs_lex, cmpFs_lex]
    rfl
  · rw [if_pos h, if_pos (fun g => h (cmpI_zero.1 g))]

theorem cmp_three : ∀ (N : Nat) (a b : V), a.dep ≤ N → Three (a.cmp b)
  | 0, a, b, h => by cases a; rw [V.dep] at h; omega
  | N + 1, a, b, h => by
    rw [cmp_eq]
    split
    · exact cmpI_three' _ _
    · unfold subC
      split
      · exact (cmpYes_laws _ _ false).1
      · split
        · exact cmpI_three' _ _
        · split
          · exact cmpL_three _ _
          · split
            · exact lexL_three _ _ fun x hx y => cmp_three N x y (by have := dep_list hx; omega)
            · split
              · refine lexL_three _ _ fun x hx y => ?_
                rw [cmpFd_eq]
                split
                · exact cmpL_three _ _
                · exact cmp_three N x.2 y.2 (by have := dep_fields hx; omega)
              · exact .inr (.inl rfl)

theorem three_all (a b : V) : Three (a.cmp b) := cmp_three a.dep a b (Nat.le_refl _)
theorem threeF (a b : Fd) : Three (cmpFd a b) := by
  rw [cmpFd_eq]
  split
  · exact cmpL_three _ _
  · exact three_all _ _

theorem cmp_antiN : ∀ (N : Nat) (a b : V), a.dep ≤ N → b.cmp a = -a.cmp b
  | 0, a, b, h => by cases a; rw [V.dep] at h; omega
  | N + 1, a, b, h => by
    rw [cmp_eq a b, cmp_eq b a]
    have hi := cmpI_anti a.kind b.kind
    by_cases hk : cmpI a.kind b.kind = 0
    · have hkk := cmpI_zero.1 hk
      rw [if_neg (by omega), if_neg (by omega)]
      unfold subC
      rw [← hkk]
      split
      · exact (cmpYes_laws _ _ false).2.1
      · split
        · exact cmpI_anti _ _
        · split
          · exact cmpL_anti _ _
          · split
            · exact lexL_anti _ _ fun x hx y => cmp_antiN N x y (by have := dep_list hx; omega)
            · split
              · refine lexL_anti _ _ fun x hx y => ?_
                have hl := cmpL_anti x.1.data.toList y.1.data.toList
                have hv := cmp_antiN N x.2 y.2 (by have := dep_fields hx; omega)
                rw [cmpFd_eq, cmpFd_eq]
                by_cases h0 : cmpL x.1.data.toList y.1.data.toList = 0
                · rw [if_neg (by omega), if_neg (by omega)]; exact hv
                · rw [if_pos (by omega), if_pos (by omega)]; exact hl
              · rfl
    · rw [if_pos (by omega), if_pos hk]; exact hi

theorem cmp_anti (a b : V) : b.cmp a = -a.cmp b := cmp_antiN a.dep a b (Nat.le_refl _)

theorem cmp_trN : ∀ (N : Nat) (a b c : V), a.dep ≤ N → Tr V.cmp a b c
  | 0, a, b, c, h => by cases a; rw [V.dep] at h; omega
  | N + 1, a, b, c, h => by
    have hp := pair_tr (f := cmpI) (g := subC) cmpI_three' V.kind a b c (cmpI_tr _ _ _) (fun ab _ => by
      have hab := cmpI_zero.1 ab
      unfold Tr subC
      rw [← hab]
      split
      · exact (cmpYes_laws _ _ _).2.2
      · split
        · exact cmpI_tr _ _ _
        · split
          · exact cmpL_tr _ _ _
          · split
            · exact lexL_tr three_all _ _ _ fun x hx y z => cmp_trN N x y z (by have := dep_list hx; omega)
            · split
              · refine lexL_tr threeF _ _ _ fun x hx y z => ?_
                have hq := pair_tr (f := fun (p q : ByteArray) => cmpL p.data.toList q.data.toList) (g := fun (p q : Fd) => V.cmp p.2 q.2) (fun _ _ => cmpL_three _ _) (fun p : Fd => p.1) x y z (cmpL_tr _ _ _) (fun _ _ => cmp_trN N x.2 y.2 z.2 (by have := dep_fields hx; omega))
                unfold Tr at hq ⊢
                simp only [cmpFd_eq]
                exact hq
              · simp)
    unfold Tr at hp ⊢
    simp only [cmp_eq]
    exact hp

theorem cmp_tr (a b c : V) : Tr V.cmp a b c := cmp_trN a.dep a b c (Nat.le_refl _)

theorem cmp_self (a : V) : a.cmp a = 0 := by have := cmp_anti a a; omega

end Go.Proofs.Ytacphlceggbfcaa
