/-
  Texts, numbers and lists of texts as keys: their order, and back: plain facts on lists of bytes; nothing of the program.
-/
import Derived.Sort.Walk0
import Derived.Test.YtcebnoapgceodaaOrder
namespace Go.Proofs.Ytcebnoapgceodaa

abbrev L8 := List UInt8

theorem u8_toNat_eq {a b : UInt8} : a = b ↔ a.toNat = b.toNat := ⟨fun h => by rw [h], fun h => UInt8.toNat_inj.1 h⟩
theorem lt_cons {a b : UInt8} {l m : L8} : a :: l < b :: m ↔ a.toNat < b.toNat ∨ (a.toNat = b.toNat ∧ l < m) := by
  rw [List.cons_lt_cons_iff, UInt8.lt_iff_toNat_lt, ← u8_toNat_eq]
theorem lt_irr (l : L8) : ¬ l < l := List.lt_irrefl l
theorem lt_asym {a b : L8} (h : a < b) : ¬ b < a := fun k => lt_irr a (List.lt_trans h k)
theorem lt_tri : ∀ (a b : L8), a < b ∨ a = b ∨ b < a
  | [], [] => .inr (.inl rfl)
  | [], _ :: _ => .inl (List.nil_lt_cons ..)
  | _ :: _, [] => .inr (.inr (List.nil_lt_cons ..))
  | a :: l, b :: m => by
    rw [lt_cons, lt_cons, List.cons.injEq, u8_toNat_eq]
    rcases lt_tri l m with h | h | h
    · by_cases e : a.toNat = b.toNat
      · exact .inl (.inr ⟨e, h⟩)
      · rcases Nat.lt_or_ge a.toNat b.toNat with g | g
        · exact .inl (.inl g)
        · exact .inr (.inr (.inl (by omega)))
    · by_cases e : a.toNat = b.toNat
      · exact .inr (.inl ⟨e, h⟩)
      · rcases Nat.lt_or_ge a.toNat b.toNat with g | g
        · exact .inl (.inl g)
        · exact .inr (.inr (.inl (by omega)))
    · by_cases e : a.toNat = b.toNat
      · exact .inr (.inr (.inr ⟨e.symm, h⟩))
      · rcases Nat.lt_or_ge a.toNat b.toNat with g | g
        · exact .inl (.inl g)
        · exact .inr (.inr (.inl (by omega)))

/-- the order of two texts -/
def cmpL (a b : L8) : Int := if a < b then -1 else if b < a then 1 else 0

theorem cmpL_self (a : L8) : cmpL a a = 0 := by simp [cmpL, lt_irr]
theorem cmpL_lt {a b : L8} (h : a < b) : cmpL a b = -1 := by simp [cmpL, h]
theorem cmpL_gt {a b : L8} (h : b < a) : cmpL a b = 1 := by simp [cmpL, h, lt_asym h]
theorem cmpL_zero {a b : L8} : cmpL a b = 0 ↔ a = b := by
  rcases lt_tri a b with h | h | h
  · rw [cmpL_lt h]; exact ⟨fun e => by omega, fun e => by subst e; exact absurd h (lt_irr _)⟩
  · subst h; simp [cmpL_self]
  · rw [cmpL_gt h]; exact ⟨fun e => by omega, fun e => by subst e; exact absurd h (lt_irr _)⟩
theorem cmpL_three (a b : L8) : cmpL a b = -1 ∨ cmpL a b = 0 ∨ cmpL a b = 1 := by
  unfold cmpL; split
  · exact .inl rfl
  · split
    · exact .inr (.inr rfl)
    · exact .inr (.inl rfl)

/-- two orders that fit each other tell the same -/
theorem cmpL_iff {a b : L8} {c : Int} (h1 : a < b ↔ c = -1) (h2 : b < a ↔ c = 1) (h3 : c = -1 ∨ c = 0 ∨ c = 1) : cmpL a b = c := by
  unfold cmpL
  by_cases e1 : a < b
  · rw [if_pos e1]; exact (h1.1 e1).symm
  · by_cases e2 : b < a
    · rw [if_neg e1, if_pos e2]; exact (h2.1 e2).symm
    · rw [if_neg e1, if_neg e2]
      rcases h3 with h | h | h
      · exact absurd (h1.2 h) e1
      · exact h.symm
      · exact absurd (h2.2 h) e2

theorem lt_append_left (p : L8) (a b : L8) : p ++ a < p ++ b ↔ a < b := by
  induction p with
  | nil => simp
  | cons c p ih => simp [ih]
theorem cmpL_append_left (p a b : L8) : cmpL (p ++ a) (p ++ b) = cmpL a b := by unfold cmpL; simp only [lt_append_left]

/-- a text's bytes in a key, without its end -/
def esc : L8 → L8
  | [] => []
  | c :: l => if c = 0 then 0 :: 255 :: esc l else c :: esc l
/-- a text's bytes in a key -/
def oT (l : L8) : L8 := esc l ++ [0, 1]
/-- a key of texts -/
def oK (ps : List L8) : L8 := ps.flatMap oT
/-- a number's bytes in a key -/
def oI (n : Int) : L8 := be 8 (n + 9223372036854775808).toNat

theorem esc_append (a b : L8) : esc (a ++ b) = esc a ++ esc b := by
  induction a with
  | nil => rfl
  | cons c a ih => by_cases h : c = 0 <;> simp [esc, h, ih]
theorem esc_length (a : L8) : (esc a).length ≤ 2 * a.length := by
  induction a with
  | nil => simp [esc]
  | cons c a ih => by_cases h : c = 0 <;> simp [esc, h] <;> omega
theorem oT_length (a : L8) : (oT a).length ≤ 2 * a.length + 2 := by have := esc_length a; simp [oT]; omega
theorem oT_pos (a : L8) : 2 ≤ (oT a).length := by simp [oT]
theorem oI_length (n : Int) : (oI n).length = 8 := be_length _ _

theorem oT_nil_app (r : L8) : oT [] ++ r = 0 :: 1 :: r := by simp [oT, esc]
theorem oT_zero_app (a r : L8) : oT (0 :: a) ++ r = 0 :: 255 :: (oT a ++ r) := by simp [oT, esc]
theorem oT_cons_app (c : UInt8) (h : c ≠ 0) (a r : L8) : oT (c :: a) ++ r = c :: (oT a ++ r) := by simp [oT, esc, h]

theorem oT_lt : ∀ (a b r s : L8), oT a ++ r < oT b ++ s ↔ a < b ∨ (a = b ∧ r < s)
  | [], [], r, s => by rw [oT_nil_app, oT_nil_app, lt_cons, lt_cons]; simp
  | [], d :: b, r, s => by
    by_cases hd : d = 0
    · subst hd; rw [oT_nil_app, oT_zero_app, lt_cons, lt_cons]; simp [List.nil_lt_cons]
    · have h0 : 0 < d.toNat := by
        rcases Nat.eq_zero_or_pos d.toNat with e | e
        · exact absurd (u8_toNat_eq.2 (by simpa using e)) hd
        · exact e
      rw [oT_nil_app, oT_cons_app d hd, lt_cons]; simp [List.nil_lt_cons, h0]
  | c :: a, [], r, s => by
    by_cases hc : c = 0
    · subst hc; rw [oT_nil_app, oT_zero_app, lt_cons, lt_cons]; simp
    · have h0 : 0 < c.toNat := by
        rcases Nat.eq_zero_or_pos c.toNat with e | e
        · exact absurd (u8_toNat_eq.2 (by simpa using e)) hc
        · exact e
      rw [oT_nil_app, oT_cons_app c hc, lt_cons]; simp; omega
  | c :: a, d :: b, r, s => by
    have ih := oT_lt a b r s
    by_cases hc : c = 0 <;> by_cases hd : d = 0
    · subst hc hd
      rw [oT_zero_app, oT_zero_app, lt_cons, lt_cons, lt_cons, ih]
      simp
    · subst hc
      have h0 : 0 < d.toNat := by
        rcases Nat.eq_zero_or_pos d.toNat with e | e
        · exact absurd (u8_toNat_eq.2 (by simpa using e)) hd
        · exact e
      rw [oT_zero_app, oT_cons_app d hd, lt_cons, lt_cons]
      simp [h0]
    · subst hd
      have h0 : 0 < c.toNat := by
        rcases Nat.eq_zero_or_pos c.toNat with e | e
        · exact absurd (u8_toNat_eq.2 (by simpa using e)) hc
        · exact e
      rw [oT_zero_app, oT_cons_app c hc, lt_cons, lt_cons, List.cons.injEq, u8_toNat_eq]
      constructor
      · rintro (h | ⟨h, _⟩)
        · simp at h
        · simp at h; omega
      · rintro (⟨h | ⟨h, _⟩⟩ | ⟨⟨h, _⟩, _⟩)
        all_goals (simp at h; try omega)
    · rw [oT_cons_app c hc, oT_cons_app d hd, lt_cons, lt_cons, ih, List.cons.injEq, u8_toNat_eq]
      constructor
      · rintro (h | ⟨h, h1 | ⟨h1, h2⟩⟩)
        · exact .inl (.inl h)
        · exact .inl (.inr ⟨h, h1⟩)
        · exact .inr ⟨⟨h, h1⟩, h2⟩
      · rintro ((h | ⟨h, h1⟩) | ⟨⟨h, h1⟩, h2⟩)
        · exact .inl h
        · exact .inr ⟨h, .inl h1⟩
        · exact .inr ⟨h, .inr ⟨h1, h2⟩⟩

theorem cmpL_oT (a b r s : L8) : cmpL (oT a ++ r) (oT b ++ s) = if a = b then cmpL r s else cmpL a b := by
  by_cases e : a = b
  · subst e; rw [if_pos rfl]; exact cmpL_append_left _ _ _
  · rw [if_neg e]
    refine cmpL_iff ?_ ?_ (cmpL_three a b)
    · rw [oT_lt]
      rcases lt_tri a b with h | h | h
      · rw [cmpL_lt h]; simp [h]
      · exact absurd h e
      · rw [cmpL_gt h]; simp [lt_asym h, e]
    · rw [oT_lt]
      rcases lt_tri a b with h | h | h
      · rw [cmpL_lt h]; simp [lt_asym h, Ne.symm e]
      · exact absurd h e
      · rw [cmpL_gt h]; simp [h]

theorem oT_inj (a b r s : L8) (h : oT a ++ r = oT b ++ s) : a = b ∧ r = s := by
  have h0 : cmpL (oT a ++ r) (oT b ++ s) = 0 := by rw [h]; exact cmpL_self _
  rw [cmpL_oT] at h0
  by_cases e : a = b
  · rw [if_pos e] at h0
    exact ⟨e, cmpL_zero.1 h0⟩
  · rw [if_neg e] at h0
    exact absurd (cmpL_zero.1 h0) e

theorem be_lt (j p q : Nat) (h : p < q) (hq : q < 256 ^ j) : be j p < be j q := by
  have := be_less j p q h hq
  rw [Proofs.bytesLess_eq] at this
  exact of_decide_eq_true this

theorem lt_append_same : ∀ (x y r s : L8), x.length = y.length → (x ++ r < y ++ s ↔ x < y ∨ (x = y ∧ r < s))
  | [], [], r, s, _ => by simp
  | c :: x, d :: y, r, s, h => by
    have ih := lt_append_same x y r s (by simpa using h)
    rw [List.cons_append, List.cons_append, lt_cons, lt_cons, ih, List.cons.injEq, u8_toNat_eq]
    constructor
    · rintro (h | ⟨h, h1 | ⟨h1, h2⟩⟩)
      · exact .inl (.inl h)
      · exact .inl (.inr ⟨h, h1⟩)
      · exact .inr ⟨⟨h, h1⟩, h2⟩
    · rintro ((h | ⟨h, h1⟩) | ⟨⟨h, h1⟩, h2⟩)
      · exact .inl h
      · exact .inr ⟨h, .inl h1⟩
      · exact .inr ⟨h, .inr ⟨h1, h2⟩⟩

def Is64 (n : Int) : Prop := -9223372036854775808 ≤ n ∧ n ≤ 9223372036854775807

theorem oI_mono {a b : Int} (ha : Is64 a) (hb : Is64 b) (h : a < b) : oI a < oI b := by
  unfold Is64 at ha hb
  exact be_lt 8 _ _ (by omega) (by omega)

theorem cmpL_oI {a b : Int} (ha : Is64 a) (hb : Is64 b) (r s : L8) : cmpL (oI a ++ r) (oI b ++ s) = if a < b then -1 else if b < a then 1 else cmpL r s := by
  have hl : (oI a).length = (oI b).length := by rw [oI_length, oI_length]
  by_cases h1 : a < b
  · rw [if_pos h1]
    exact cmpL_lt ((lt_append_same _ _ r s hl).2 (.inl (oI_mono ha hb h1)))
  · by_cases h2 : b < a
    · rw [if_neg h1, if_pos h2]
      exact cmpL_gt ((lt_append_same _ _ s r hl.symm).2 (.inl (oI_mono hb ha h2)))
    · obtain rfl : a = b := by omega
      rw [if_neg h1, if_neg h2, cmpL_append_left]

/-- the number of eight bytes -/
def unI (l : L8) : Int := (val l : Int) - 9223372036854775808

theorem unI_oI {n : Int} (h : Is64 n) : unI (oI n) = n := by
  unfold Is64 at h
  unfold unI oI
  rw [val_be, Nat.mod_eq_of_lt (by omega)]
  omega

theorem oI_unI {l : L8} (h : l.length = 8) : oI (unI l) = l := by
  have hl := val_lt l
  rw [h] at hl
  unfold unI oI
  rw [show ((val l : Int) - 9223372036854775808 + 9223372036854775808).toNat = val l by omega]
  have := be_val0 l
  rw [h] at this
  exact this

theorem unI_is64 {l : L8} (h : l.length = 8) : Is64 (unI l) := by
  have hl := val_lt l
  rw [h] at hl
  unfold Is64 unI
  omega

/-- the order of two lists of texts -/
def cmpK : List L8 → List L8 → Int
  | [], [] => 0
  | [], _ :: _ => -1
  | _ :: _, [] => 1
  | x :: a, y :: b => if x = y then cmpK a b else cmpL x y

theorem oK_cons (x : L8) (a : List L8) : oK (x :: a) = oT x ++ oK a := rfl

theorem nil_lt_oT (x r : L8) : ([] : L8) < oT x ++ r := by
  have := oT_pos x
  match h : oT x ++ r with
  | [] => have h2 := congrArg List.length h; rw [List.length_append] at h2; simp only [List.length_nil] at h2; omega
  | c :: l => exact List.nil_lt_cons ..

theorem cmpL_oK : ∀ (a b : List L8), cmpL (oK a) (oK b) = cmpK a b
  | [], [] => cmpL_self _
  | [], y :: b => cmpL_lt (nil_lt_oT y (oK b))
  | x :: a, [] => cmpL_gt (nil_lt_oT x (oK a))
  | x :: a, y :: b => by rw [oK_cons, oK_cons, cmpL_oT, cmpL_oK a b]; rfl

theorem oK_inj : ∀ (a b : List L8), oK a = oK b → a = b
  | [], [], _ => rfl
  | [], y :: b, h => by have := nil_lt_oT y (oK b); rw [← oK_cons, ← h] at this; exact absurd this (lt_irr _)
  | x :: a, [], h => by have := nil_lt_oT x (oK a); rw [← oK_cons, h] at this; exact absurd this (lt_irr _)
  | x :: a, y :: b, h => by
    obtain ⟨e1, e2⟩ := oT_inj _ _ _ _ h
    rw [e1, oK_inj a b e2]

theorem oK_append (a b : List L8) : oK (a ++ b) = oK a ++ oK b := by simp [oK]

theorem oK_prefix : ∀ (a b : List L8), oK a <+: oK b ↔ a <+: b
  | [], b => by simp [oK]
  | x :: a, [] => by
    constructor
    · intro h
      have h1 := h.length_le
      have h2 := oT_pos x
      rw [oK_cons, List.length_append] at h1
      have h3 : (oK ([] : List L8)).length = 0 := rfl
      omega
    · intro h; simp at h
  | x :: a, y :: b => by
    constructor
    · rintro ⟨t, h⟩
      rw [oK_cons, oK_cons, List.append_assoc] at h
      obtain ⟨e1, e2⟩ := oT_inj _ _ _ _ h
      subst e1
      have := (oK_prefix a b).1 ⟨t, e2⟩
      exact List.prefix_cons_inj x |>.2 this
    · rintro ⟨t, h⟩
      rw [← h, oK_append]
      exact List.prefix_append _ _

/-- the first text of a key, and the rest -/
def cutO : L8 → Option (L8 × L8)
  | [] => none
  | [_] => none
  | c :: d :: r => if c = 0 then (if d = 1 then some ([], r) else if d = 255 then (cutO r).map fun x => (0 :: x.1, x.2) else none) else (cutO (d :: r)).map fun x => (c :: x.1, x.2)

theorem cutO_oT : ∀ (s r : L8), cutO (oT s ++ r) = some (s, r)
  | [], r => by rw [oT_nil_app]; simp [cutO]
  | c :: s, r => by
    have ih := cutO_oT s r
    by_cases h : c = 0
    · subst h; rw [oT_zero_app, cutO]; simp [ih]
    · rw [oT_cons_app c h]
      match hh : oT s ++ r with
      | [] => rw [hh] at ih; simp [cutO] at ih
      | d :: t => rw [hh] at ih; rw [cutO, if_neg h, ih]; rfl

theorem cutO_back : ∀ (n : Nat) (k s r : L8), k.length ≤ n → cutO k = some (s, r) → k = oT s ++ r
  | n, [], s, r, _, h => by simp [cutO] at h
  | n, [c], s, r, _, h => by simp [cutO] at h
  | 0, c :: d :: k, s, r, hn, h => by simp at hn
  | n + 1, c :: d :: k, s, r, hn, h => by
    rw [cutO] at h
    split at h
    · rename_i hc
      subst hc
      split at h
      · rename_i hd; subst hd
        simp at h
        obtain ⟨rfl, rfl⟩ := h
        rw [oT_nil_app]
      · split at h
        · rename_i hd; subst hd
          simp only [Option.map_eq_some_iff, Prod.mk.injEq] at h
          obtain ⟨⟨s', r'⟩, h1, rfl, rfl⟩ := h
          rw [oT_zero_app, ← cutO_back n k s' r' (by simp at hn; omega) h1]
        · cases h
    · rename_i hc
      simp only [Option.map_eq_some_iff, Prod.mk.injEq] at h
      obtain ⟨⟨s', r'⟩, h1, rfl, rfl⟩ := h
      rw [oT_cons_app c hc, ← cutO_back n (d :: k) s' r' (by simp at hn ⊢; omega) h1]

/-- the least text that is behind all that begin with one -/
def aft : L8 → Option L8
  | [] => none
  | c :: l => match aft l with
    | some x => some (c :: x)
    | none => if c = 255 then none else some [c + 1]

theorem aft_none : ∀ (p : L8), (∀ c ∈ p, c = 255) → aft p = none
  | [], _ => rfl
  | c :: l, h => by
    have ih := aft_none l fun d hd => h d (by simp [hd])
    have hc := h c (by simp)
    rw [aft, ih]; simp [hc]

theorem aft_at (x : L8) (c : UInt8) (hc : c ≠ 255) (y : L8) (hy : ∀ d ∈ y, d = 255) : aft (x ++ c :: y) = some (x ++ [c + 1]) := by
  induction x with
  | nil => simp [aft, aft_none y hy, hc]
  | cons d x ih => rw [List.cons_append, aft, ih]; rfl

theorem succ_toNat {c : UInt8} (h : c ≠ 255) : (c + 1).toNat = c.toNat + 1 := by
  have hb := c.toNat_lt
  have : c.toNat ≠ 255 := fun e => h (u8_toNat_eq.2 (by simpa using e))
  simp; omega

theorem aft_some : ∀ (p a : L8), aft p = some a → (∀ s, p <+: s → s < a) ∧ (∀ s, ¬ p <+: s → s < p ∨ ¬ s < a) ∧ ¬ p <+: a
  | [], a, h => by simp [aft] at h
  | c :: l, a, h => by
    rw [aft] at h
    cases hl : aft l with
    | some x =>
      rw [hl] at h
      simp at h
      subst h
      obtain ⟨h1, h2, h3⟩ := aft_some l x hl
      refine ⟨?_, ?_, ?_⟩
      · rintro s ⟨t, rfl⟩
        rw [List.cons_append, lt_cons]
        exact .inr ⟨rfl, h1 _ ⟨t, rfl⟩⟩
      · intro s hs
        match s with
        | [] => exact .inl (List.nil_lt_cons ..)
        | d :: s =>
          rw [lt_cons, lt_cons]
          by_cases e : d = c
          · subst e
            have : ¬ l <+: s := fun k => hs (List.prefix_cons_inj d |>.2 k)
            rcases h2 s this with g | g
            · exact .inl (.inr ⟨rfl, g⟩)
            · refine .inr ?_
              rintro (k | ⟨_, k⟩)
              · omega
              · exact g k
          · have e' : d.toNat ≠ c.toNat := fun k => e (u8_toNat_eq.2 k)
            rcases Nat.lt_or_ge d.toNat c.toNat with g | g
            · exact .inl (.inl g)
            · refine .inr ?_
              rintro (k | ⟨k, _⟩) <;> omega
      · intro k
        exact h3 (List.prefix_cons_inj c |>.1 k)
    | none =>
      rw [hl] at h
      simp only at h
      split at h
      · cases h
      · rename_i hc
        simp at h
        subst h
        have hs1 := succ_toNat hc
        refine ⟨?_, ?_, ?_⟩
        · rintro s ⟨t, rfl⟩
          rw [List.cons_append, lt_cons]
          exact .inl (by omega)
        · intro s hs
          have h255 : ∀ d ∈ l, d = 255 := by
            clear hs hc hs1
            induction l with
            | nil => simp
            | cons d l ih =>
              rw [aft] at hl
              cases hl2 : aft l with
              | some x => rw [hl2] at hl; simp at hl
              | none =>
                rw [hl2] at hl
                simp at hl
                intro d' hd'
                simp at hd'
                rcases hd' with rfl | hd'
                · exact hl
                · exact ih hl2 d' hd'
          match s with
          | [] => exact .inl (List.nil_lt_cons ..)
          | d :: s =>
            rw [lt_cons, lt_cons]
            rcases Nat.lt_or_ge d.toNat c.toNat with g | g
            · exact .inl (.inl g)
            · by_cases e : d.toNat = c.toNat
              · left; right
                refine ⟨e, ?_⟩
                obtain rfl := u8_toNat_eq.2 e
                have hs' : ¬ l <+: s := fun k => hs (List.prefix_cons_inj d |>.2 k)
                clear hs hl
                induction l generalizing s with
                | nil => simp at hs'
                | cons f l ih =>
                  match s with
                  | [] => exact List.nil_lt_cons ..
                  | g2 :: s =>
                    have hf := h255 f (by simp)
                    rw [lt_cons]
                    have hg := g2.toNat_lt
                    by_cases e2 : g2 = f
                    · subst e2
                      exact .inr ⟨rfl, ih (fun d' hd' => h255 d' (by simp [hd'])) s (fun k => hs' (List.prefix_cons_inj g2 |>.2 k))⟩
                    · have : g2.toNat ≠ f.toNat := fun k => e2 (u8_toNat_eq.2 k)
                      subst hf
                      simp at this ⊢
                      left; omega
              · right
                rintro (k | ⟨_, k⟩)
                · omega
                · simp at k
        · rintro ⟨t, k⟩
          simp only [List.cons_append, List.cons.injEq] at k
          have := congrArg UInt8.toNat k.1
          omega

theorem aft_all (p s : L8) (h : ∀ c ∈ p, c = 255) : s < p ∨ p <+: s := by
  induction p generalizing s with
  | nil => exact .inr (List.nil_prefix ..)
  | cons c p ih =>
    have hc := h c (by simp)
    match s with
    | [] => exact .inl (List.nil_lt_cons ..)
    | d :: s =>
      have hd := d.toNat_lt
      by_cases e : d = c
      · subst e
        rcases ih s (fun x hx => h x (by simp [hx])) with g | g
        · exact .inl (lt_cons.2 (.inr ⟨rfl, g⟩))
        · exact .inr (List.prefix_cons_inj d |>.2 g)
      · have : d.toNat ≠ c.toNat := fun k => e (u8_toNat_eq.2 k)
        refine .inl (lt_cons.2 (.inl ?_))
        subst hc
        simp at this ⊢
        omega

end Go.Proofs.Ytcebnoapgceodaa
