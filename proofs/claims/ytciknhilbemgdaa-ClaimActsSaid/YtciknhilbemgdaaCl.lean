/-
  claim, plainly: who is at which keys (names that rise, each with a number); such claims in memory; a frame of blocks.
-/
import Derived.Test.YtciknhilbemgdaaDMap
import Derived.Test.YtciknhilbemgdaaTRow
import Derived.Maps.RangeWalk
import Derived.Maps.OwnSet
import Derived.Laws.Cover3
import Derived.Laws.IdiomRangeMap
import Derived.Lib.Hide
namespace Go.Proofs.Ytciknhilbemgdaa.cl
open Go.RowKit Go.Maps

abbrev L8 := List UInt8
/-- keys in order, each with who is there -/
abbrev G := List (L8 × Int)
def toV (gs : G) : FL := gs.map fun p => (p.1, .int .i64 p.2)
def getG (k : L8) (gs : G) : Option Int := (gs.find? fun p => p.1 == k).map (·.2)
def insG (x : L8 × Int) : G → G
  | [] => [x]
  | y :: r => if bytesBefore x.1 y.1 then x :: y :: r else y :: insG x r
def delG (k : L8) (gs : G) : G := gs.filter fun p => !(p.1 == k)
def putG (k : L8) (z : Int) (gs : G) : G := insG (k, z) (delG k gs)
def RiseG (gs : G) : Prop := gs.Pairwise fun p q => bytesBefore p.1 q.1 = true
/-- somebody else is at the key -/
def otherG (gs : G) (who : Int) (k : L8) : Bool := match getG k gs with | some z => z != who | none => false
/-- the keys at which one is -/
def ofG (gs : G) (who : Int) : List L8 := (gs.filter fun p => p.2 == who).map (·.1)

theorem toV_ins (k : L8) (z : Int) : ∀ gs : G, insS (k, .int .i64 z) (toV gs) = toV (insG (k, z) gs)
  | [] => rfl
  | y :: r => by
    have ih := toV_ins k z r
    unfold toV at ih ⊢
    rw [insG, List.map_cons, insS]
    by_cases h : bytesBefore k y.1 = true
    · rw [if_pos h, if_pos h]; simp
    · rw [if_neg h, if_neg h, List.map_cons, ih]
theorem toV_del (k : L8) (gs : G) : delS k (toV gs) = toV (delG k gs) := by
  unfold toV delG delS
  rw [List.filter_map]
  rfl
theorem toV_put (k : L8) (z : Int) (gs : G) : putS k (.int .i64 z) (toV gs) = toV (putG k z gs) := by
  unfold putG putS
  rw [← toV_ins, toV_del]
theorem toV_get (k : L8) (gs : G) : getS k (toV gs) = (getG k gs).map (.int .i64) := by
  unfold getS getG toV
  rw [List.find?_map]
  simp [Function.comp_def]
theorem toV_size (gs : G) : Maps.size (dm (toV gs)) = gs.length := by unfold toV dm; rw [Maps.size_eq]; simp

theorem get_ins {k : L8} {z : Int} (j : L8) : ∀ {gs : G}, (∀ p ∈ gs, p.1 ≠ k) → getG j (insG (k, z) gs) = if j = k then some z else getG j gs
  | [], _ => by
    unfold getG insG
    by_cases h : j = k
    · subst h; simp
    · rw [if_neg h]; simp [Ne.symm h]
  | y :: r, hy => by
    have ih := get_ins (k := k) (z := z) j (gs := r) fun p hp => hy p (List.mem_cons_of_mem _ hp)
    have h0 := hy y List.mem_cons_self
    rw [insG]
    by_cases hb : bytesBefore k y.1 = true
    · rw [if_pos hb]
      unfold getG
      rw [List.find?_cons]
      by_cases h : j = k
      · subst h; simp
      · rw [if_neg h, show (k == j) = false by simp [Ne.symm h]]
    · rw [if_neg hb]
      unfold getG at ih ⊢
      rw [List.find?_cons, List.find?_cons]
      by_cases h : y.1 = j
      · have : j ≠ k := fun e => h0 (h.trans e)
        rw [if_neg this]
        simp [h]
      · rw [show (y.1 == j) = false by simp [h]]
        exact ih
theorem get_del (k j : L8) (gs : G) : getG j (delG k gs) = if j = k then none else getG j gs := by
  unfold getG delG
  rw [List.find?_filter]
  by_cases h : j = k
  · rw [if_pos h]
    subst h
    rw [List.find?_eq_none.2]
    · rfl
    · intro p _
      cases p.1 == j <;> simp
  · rw [if_neg h]
    congr 2
    funext p
    by_cases e : p.1 = j
    · simp [e, h]
    · simp [e]
theorem get_put (k : L8) (z : Int) (gs : G) (j : L8) : getG j (putG k z gs) = if j = k then some z else getG j gs := by
  unfold putG
  rw [get_ins j, get_del]
  · by_cases h : j = k
    · simp [h]
    · simp [h]
  · intro p hp
    have := (List.mem_filter.1 hp).2
    simpa using this

theorem mem_ins {x y : L8 × Int} : ∀ {gs : G}, y ∈ insG x gs ↔ y = x ∨ y ∈ gs
  | [] => by simp [insG]
  | p :: r => by
    rw [insG]
    by_cases h : bytesBefore x.1 p.1 = true
    · rw [if_pos h, List.mem_cons]
    · rw [if_neg h, List.mem_cons, List.mem_cons, mem_ins]
      constructor
      · rintro (h | h | h)
        · exact .inr (.inl h)
        · exact .inl h
        · exact .inr (.inr h)
      · rintro (h | h | h)
        · exact .inr (.inl h)
        · exact .inl h
        · exact .inr (.inr h)
theorem len_ins (x : L8 × Int) : ∀ gs : G, (insG x gs).length = gs.length + 1
  | [] => rfl
  | p :: r => by
    rw [insG]
    by_cases h : bytesBefore x.1 p.1 = true
    · rw [if_pos h]; simp
    · rw [if_neg h]; simp [len_ins x r]

theorem tri : ∀ a b : L8, bytesBefore a b = true ∨ a = b ∨ bytesBefore b a = true
  | [], [] => .inr (.inl rfl)
  | [], y :: b => .inl rfl
  | x :: a, [] => .inr (.inr rfl)
  | x :: a, y :: b => by
    unfold bytesBefore
    simp only [Bool.or_eq_true, Bool.and_eq_true, decide_eq_true_eq, beq_iff_eq]
    rcases Nat.lt_trichotomy x.toNat y.toNat with h | h | h
    · exact .inl (.inl (UInt8.lt_iff_toNat_lt.2 h))
    · have e : x = y := UInt8.toNat_inj.1 h
      subst e
      rcases tri a b with h1 | h1 | h1
      · exact .inl (.inr ⟨rfl, h1⟩)
      · exact .inr (.inl (by rw [h1]))
      · exact .inr (.inr (.inr ⟨rfl, h1⟩))
    · exact .inr (.inr (.inl (UInt8.lt_iff_toNat_lt.2 h)))
theorem b_iff : ∀ a b : L8, bytesBefore a b = true ↔ a < b
  | [], [] => by simp [bytesBefore]
  | [], y :: b => by simp [bytesBefore]
  | x :: a, [] => by simp [bytesBefore]
  | x :: a, y :: b => by
    have ih := b_iff a b
    rw [List.cons_lt_cons_iff]
    unfold bytesBefore
    rw [← ih]
    simp only [Bool.or_eq_true, Bool.and_eq_true, decide_eq_true_eq, beq_iff_eq]
theorem b_trans {a b c : L8} (h : bytesBefore a b = true) (k : bytesBefore b c = true) : bytesBefore a c = true :=
  (b_iff a c).2 (List.lt_trans ((b_iff a b).1 h) ((b_iff b c).1 k))
theorem b_irr (a : L8) : bytesBefore a a = false := Go.WideAt.bytes_irrefl a

theorem rise_ins {k : L8} {z : Int} : ∀ {gs : G}, RiseG gs → (∀ p ∈ gs, p.1 ≠ k) → RiseG (insG (k, z) gs)
  | [], _, _ => by unfold RiseG insG; simp
  | y :: r, h, hn => by
    have h1 := List.pairwise_cons.1 h
    have ih := rise_ins (z := z) h1.2 fun p hp => hn p (List.mem_cons_of_mem _ hp)
    rw [insG]
    by_cases hb : bytesBefore k y.1 = true
    · rw [if_pos hb]
      refine List.pairwise_cons.2 ⟨fun p hp => ?_, h⟩
      rcases List.mem_cons.1 hp with rfl | hp
      · exact hb
      · exact b_trans hb (h1.1 p hp)
    · rw [if_neg hb]
      refine List.pairwise_cons.2 ⟨fun p hp => ?_, ih⟩
      rcases mem_ins.1 hp with rfl | hp
      · rcases tri y.1 k with h2 | h2 | h2
        · exact h2
        · exact absurd h2 (hn y List.mem_cons_self)
        · exact absurd h2 hb
      · exact h1.1 p hp
theorem rise_filter {gs : G} (f : L8 × Int → Bool) (h : RiseG gs) : RiseG (gs.filter f) := List.Pairwise.filter f h
theorem rise_put {gs : G} (k : L8) (z : Int) (h : RiseG gs) : RiseG (putG k z gs) :=
  rise_ins (rise_filter _ h) fun p hp => by
    have := (List.mem_filter.1 hp).2
    simpa using this
theorem rise_del {gs : G} (k : L8) (h : RiseG gs) : RiseG (delG k gs) := rise_filter _ h
theorem len_put (k : L8) (z : Int) (gs : G) : (putG k z gs).length ≤ gs.length + 1 := by
  unfold putG
  rw [len_ins]
  have := List.length_filter_le (fun p : L8 × Int => !(p.1 == k)) gs
  unfold delG
  omega
theorem mem_get {gs : G} (h : RiseG gs) {k : L8} {z : Int} : (k, z) ∈ gs ↔ getG k gs = some z := by
  unfold getG
  induction gs with
  | nil => simp
  | cons y r ih =>
    have h1 := List.pairwise_cons.1 h
    rw [List.find?_cons, List.mem_cons]
    by_cases e : y.1 = k
    · rw [show (y.1 == k) = true by simp [e]]
      constructor
      · rintro (rfl | h2)
        · rfl
        · have := h1.1 _ h2
          rw [e] at this
          rw [b_irr] at this
          cases this
      · intro h2
        left
        injection h2 with h2
        rw [← e, ← h2]
    · rw [show (y.1 == k) = false by simp [e]]
      constructor
      · rintro (rfl | h2)
        · exact absurd rfl e
        · exact (ih h1.2).1 h2
      · exact fun h2 => .inr ((ih h1.2).2 h2)
theorem mem_of {gs : G} (h : RiseG gs) {k : L8} {who : Int} : k ∈ ofG gs who ↔ getG k gs = some who := by
  rw [← mem_get h]
  unfold ofG
  simp only [List.mem_map, List.mem_filter, beq_iff_eq]
  constructor
  · rintro ⟨p, ⟨h1, h2⟩, rfl⟩
    rw [← h2]
    exact h1
  · exact fun h1 => ⟨_, ⟨h1, rfl⟩, rfl⟩
theorem of_rise {gs : G} (h : RiseG gs) (who : Int) : (ofG gs who).Pairwise (fun x y => bytesBefore x y = true) := by
  unfold ofG
  rw [List.pairwise_map]
  exact List.Pairwise.filter _ h

/-- nothing but blocks of B is turned -/
def Kp (w w' : World) (B : Nat → Prop) : Prop := w'.os = w.os ∧ w'.tape = w.tape ∧ w'.output = w.output ∧ w.heap.size ≤ w'.heap.size ∧ ∀ q, q < w.heap.size → ¬ B q → w'.heap[q]? = w.heap[q]?
theorem Kp.refl (w : World) (B : Nat → Prop) : Kp w w B := ⟨rfl, rfl, rfl, Nat.le_refl _, fun _ _ _ => rfl⟩
theorem Kp.trans {w w1 w2 : World} {B : Nat → Prop} (h : Kp w w1 B) (k : Kp w1 w2 B) : Kp w w2 B :=
  ⟨k.1.trans h.1, k.2.1.trans h.2.1, k.2.2.1.trans h.2.2.1, Nat.le_trans h.2.2.2.1 k.2.2.2.1, fun q hq hf => (k.2.2.2.2 q (Nat.lt_of_lt_of_le hq h.2.2.2.1) hf).trans (h.2.2.2.2 q hq hf)⟩
theorem Kp.below {w w' : World} {B : Nat → Prop} {n : Nat} (h : Kp w w' B) (hB : ∀ q, B q → n ≤ q) (hn : n ≤ w.heap.size) : Below n w w' :=
  ⟨h.1, h.2.1, h.2.2.1, h.2.2.2.1, fun q hq => h.2.2.2.2 q (by omega) fun hb => by have := hB q hb; omega⟩
theorem Kp.ofBelow {w w' : World} {B : Nat → Prop} {n : Nat} (h : Below n w w') (hB : ∀ q, n ≤ q → q < w.heap.size → B q) : Kp w w' B :=
  ⟨h.os, h.tape, h.output, h.size, fun q hq hb => h.block q (Classical.byContradiction fun hn => hb (hB q (by omega) hq))⟩
theorem Kp.grown {w w' : World} {B : Nat → Prop} {r : Option Nat} (h : w.grownBy w' r) (hB : ∀ q, r = some q → B q) : Kp w w' B :=
  ⟨h.os, h.tape, h.output, h.size, fun q hq hb => h.block q hq fun e => hb (hB q e.symm)⟩

theorem law_s : Keyed Try.prog 9 := Maps.string_keyed Try.underlying9

/-- claims in block c: their map is nil, or in a block of B -/
def CAt (B : Nat → Prop) (w : World) (c n : Nat) (gs : G) : Prop :=
  RiseG gs ∧ B c ∧ ∃ mb : Option Nat, w.heap[c]? = some (.cells #[.map mb] 42 (0, 0)) ∧
    ((mb = none ∧ gs = []) ∨ ∃ b, mb = some b ∧ B b ∧ b ≠ c ∧ MapAt 9 w b n (toV gs))

theorem CAt.lt {B : Nat → Prop} {w : World} {c n : Nat} {gs : G} (h : CAt B w c n gs) : c < w.heap.size := by
  obtain ⟨_, _, mb, h1, _⟩ := h
  exact (Array.getElem?_eq_some_iff.1 h1).1
theorem CAt.keep {B B' : Nat → Prop} {w w' : World} {c n : Nat} {gs : G} (h : CAt B w c n gs) (hk : ∀ q, B q → q < w.heap.size → w'.heap[q]? = w.heap[q]?) (hB : ∀ q, B q → B' q) : CAt B' w' c n gs := by
  obtain ⟨h0, h1, mb, h2, h3⟩ := h
  refine ⟨h0, hB _ h1, mb, (hk c h1 (Array.getElem?_eq_some_iff.1 h2).1).trans h2, ?_⟩
  rcases h3 with h3 | ⟨b, rfl, h4, h5, h6⟩
  · exact .inl h3
  · exact .inr ⟨b, rfl, hB _ h4, h5, h6.kept (hk b h4 h6.lt)⟩
theorem CAt.below {B : Nat → Prop} {w w' : World} {c n m : Nat} {gs : G} (h : CAt B w c n gs) (hb : Below m w w') (hm : w.heap.size ≤ m) : CAt B w' c n gs :=
  h.keep (fun q _ hq => hb.block q (by omega)) fun _ h => h
theorem CAt.alloc {B : Nat → Prop} {w : World} {c n : Nat} {gs : G} (h : CAt B w c n gs) (o : Obj) : CAt B (w.alloc o) c n gs :=
  h.keep (fun q _ hq => Below.heap_alloc w o q hq) fun _ h => h
theorem CAt.mono {B : Nat → Prop} {w : World} {c n n' : Nat} {gs : G} (h : CAt B w c n gs) (hn : n ≤ n') : CAt B w c n' gs := by
  obtain ⟨h0, h1, mb, h2, h3⟩ := h
  refine ⟨h0, h1, mb, h2, ?_⟩
  rcases h3 with h3 | ⟨b, rfl, h4, h5, h6⟩
  · exact .inl h3
  · exact .inr ⟨b, rfl, h4, h5, World.ownsMap.mono h6 hn⟩

end Go.Proofs.Ytciknhilbemgdaa.cl
