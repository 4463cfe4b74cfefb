/-
  TreeOrders, plainly: what a list of keys and values holds, told by a predicate; behind each of the law's loops.
-/
import Derived.Test.YtdijbgkfdfchoaaTHead
import Derived.Test.YtdijbgkfdfchoaaTMapMI
namespace Go.Proofs.Ytdijbgkfdfchoaa.treeOrders
open Go.RowKit Go.Proofs.Ytdijbgkfdfchoaa.tI

set_option linter.unusedVariables false

/-- keys that rise, and just these pairs -/
def Is (m : List KV) (f : ByteArray → Value → Prop) : Prop := RiseB (keysOf m) ∧ ∀ k v, (k, v) ∈ m ↔ f k v

theorem rise_pair {m : List KV} : RiseB (keysOf m) ↔ m.Pairwise fun p q => Lt p.1 q.1 := by
  unfold RiseB keysOf
  rw [List.pairwise_map]

theorem mem_put {m : List KV} {key k : ByteArray} {v x : Value} : (k, x) ∈ putK m key v ↔ (k = key ∧ x = v) ∨ (k ≠ key ∧ (k, x) ∈ m) := by
  unfold putK
  rw [List.mem_append, List.mem_cons, List.mem_filter, List.mem_filter, decide_eq_true_eq, decide_eq_true_eq]
  constructor
  · rintro (⟨h1, h2⟩ | h | ⟨h1, h2⟩)
    · exact .inr ⟨lt_ne h2, h1⟩
    · injection h with h1 h2; exact .inl ⟨h1, h2⟩
    · exact .inr ⟨Ne.symm (lt_ne h2), h1⟩
  · rintro (⟨rfl, rfl⟩ | ⟨h1, h2⟩)
    · exact .inr (.inl rfl)
    · rcases key_tri k key with h | h | h
      · exact .inl ⟨h2, h⟩
      · exact absurd h h1
      · exact .inr (.inr ⟨h2, h⟩)

theorem rise_put {m : List KV} (h : RiseB (keysOf m)) (key : ByteArray) (v : Value) : RiseB (keysOf (putK m key v)) := by
  rw [rise_pair] at h ⊢
  unfold putK
  rw [List.pairwise_append, List.pairwise_cons]
  refine ⟨h.filter _, ⟨fun q hq => of_decide_eq_true (List.mem_filter.1 hq).2, h.filter _⟩, fun p hp q hq => ?_⟩
  have hp2 : Lt p.1 key := of_decide_eq_true (List.mem_filter.1 hp).2
  rcases List.mem_cons.1 hq with rfl | hq
  · exact hp2
  · exact hp2.trans (of_decide_eq_true (List.mem_filter.1 hq).2)

theorem rise_drop {m : List KV} (h : RiseB (keysOf m)) (key : ByteArray) : RiseB (keysOf (dropK m key)) := by
  rw [rise_pair] at h ⊢
  exact h.filter _

theorem Is.nil : Is [] fun _ _ => False := ⟨List.Pairwise.nil, fun k v => by simp⟩
theorem Is.congr {m : List KV} {f g : ByteArray → Value → Prop} (h : Is m f) (e : ∀ k v, f k v ↔ g k v) : Is m g := ⟨h.1, fun k v => (h.2 k v).trans (e k v)⟩
theorem Is.put {m : List KV} {f : ByteArray → Value → Prop} (h : Is m f) (key : ByteArray) (v : Value) : Is (putK m key v) fun k x => (k = key ∧ x = v) ∨ (k ≠ key ∧ f k x) :=
  ⟨rise_put h.1 key v, fun k x => by rw [mem_put, h.2 k x]⟩
theorem Is.drop {m : List KV} {f : ByteArray → Value → Prop} (h : Is m f) (key : ByteArray) : Is (dropK m key) fun k x => k ≠ key ∧ f k x :=
  ⟨rise_drop h.1 key, fun k x => by unfold dropK; rw [List.mem_filter, h.2 k x, decide_eq_true_eq]; exact And.comm⟩

theorem get_mem : ∀ {m : List KV}, RiseB (keysOf m) → ∀ (k : ByteArray) (v : Value), getK m k = some v ↔ (k, v) ∈ m
  | [], _, k, v => by simp [getK]
  | p :: r, h, k, v => by
    rw [rise_pair, List.pairwise_cons] at h
    have ih := get_mem (m := r) (rise_pair.2 h.2) k v
    by_cases e : p.1 = k
    · have h1 : getK (p :: r) k = some p.2 := by unfold getK; rw [List.find?_cons_of_pos (by simpa using e)]; rfl
      rw [h1, List.mem_cons, Option.some.injEq]
      constructor
      · intro h2; exact .inl (by rw [← h2, ← e])
      · rintro (h2 | h2)
        · rw [← h2]
        · exact absurd e.symm (Ne.symm (lt_ne (h.1 _ h2)))
    · have h1 : getK (p :: r) k = getK r k := by unfold getK; rw [List.find?_cons_of_neg (by simpa using e)]
      rw [h1, ih, List.mem_cons]
      constructor
      · exact .inr
      · rintro (h2 | h2)
        · exact absurd (by rw [← h2]) e
        · exact h2

theorem Is.get {m : List KV} {f : ByteArray → Value → Prop} (h : Is m f) (k : ByteArray) (v : Value) : getK m k = some v ↔ f k v := (get_mem h.1 k v).trans (h.2 k v)
theorem Is.none {m : List KV} {f : ByteArray → Value → Prop} (h : Is m f) (k : ByteArray) : getK m k = none ↔ ∀ v, ¬ f k v := by
  rw [Option.eq_none_iff_forall_ne_some]
  exact forall_congr' fun v => not_congr (h.get k v)
theorem Is.one {m : List KV} {f : ByteArray → Value → Prop} (h : Is m f) {k : ByteArray} {v x : Value} (hv : f k v) (hx : f k x) : v = x := by
  have h1 := (h.get k v).2 hv
  have h2 := (h.get k x).2 hx
  rw [h1] at h2
  exact Option.some.inj h2

theorem ext_mem : ∀ {m n : List KV}, RiseB (keysOf m) → RiseB (keysOf n) → (∀ p, p ∈ m ↔ p ∈ n) → m = n
  | [], [], _, _, _ => rfl
  | [], q :: s, _, _, e => by simpa using (e q).2 List.mem_cons_self
  | p :: r, [], _, _, e => by simpa using (e p).1 List.mem_cons_self
  | p :: r, q :: s, h, k, e => by
    rw [rise_pair, List.pairwise_cons] at h k
    have hpq : p = q := by
      rcases List.mem_cons.1 ((e p).1 List.mem_cons_self) with h1 | h1
      · exact h1
      · rcases List.mem_cons.1 ((e q).2 List.mem_cons_self) with h2 | h2
        · exact h2.symm
        · exact absurd (h.1 _ h2) (not_lt_of (k.1 _ h1))
    subst hpq
    congr 1
    refine ext_mem (rise_pair.2 h.2) (rise_pair.2 k.2) fun x => ?_
    constructor
    · intro hx
      rcases List.mem_cons.1 ((e x).1 (List.mem_cons_of_mem _ hx)) with h1 | h1
      · exact absurd (h.1 _ hx) (by rw [h1]; exact Lt.irrefl _)
      · exact h1
    · intro hx
      rcases List.mem_cons.1 ((e x).2 (List.mem_cons_of_mem _ hx)) with h1 | h1
      · exact absurd (k.1 _ hx) (by rw [h1]; exact Lt.irrefl _)
      · exact h1

theorem Is.ext {m n : List KV} {f : ByteArray → Value → Prop} (h : Is m f) (k : Is n f) : m = n := ext_mem h.1 k.1 fun ⟨x, v⟩ => (h.2 x v).trans (k.2 x v).symm

theorem two_filters {α : Type} (f g : α → Bool) (h : ∀ x, f x = true → g x = false) : ∀ m : List α, (m.filter f).length + (m.filter g).length ≤ m.length
  | [] => by simp
  | x :: r => by
    have ih := two_filters f g h r
    by_cases hf : f x = true
    · rw [List.filter_cons_of_pos hf, List.filter_cons_of_neg (by rw [h x hf]; simp)]
      simp only [List.length_cons]; omega
    · rw [List.filter_cons_of_neg hf]
      by_cases hg : g x = true
      · rw [List.filter_cons_of_pos hg]
        simp only [List.length_cons]; omega
      · rw [List.filter_cons_of_neg hg]
        simp only [List.length_cons]; omega
theorem put_length {m : List KV} {key : ByteArray} {v : Value} : (putK m key v).length ≤ m.length + 1 := by
  unfold putK
  rw [List.length_append, List.length_cons]
  exact Nat.succ_le_succ (two_filters _ _ (fun p hp => decide_eq_false (not_lt_of (of_decide_eq_true hp))) m)
theorem drop_length {m : List KV} {key : ByteArray} : (dropK m key).length ≤ m.length := List.length_filter_le _ _

/-- of each key the number of its first place among the first n -/
def fst (ks : List ByteArray) : Nat → ByteArray → Value → Prop
  | 0, _, _ => False
  | n + 1, k, v => fst ks n k v ∨ ((∀ x, ¬ fst ks n k x) ∧ ks[n]? = some k ∧ v = .int .i64 (n : Int))

theorem fst_has {ks : List ByteArray} {i : Nat} {k : ByteArray} (h : ks[i]? = some k) : ∀ n, i < n → ∃ v, fst ks n k v
  | 0, hi => by omega
  | n + 1, hi => by
    by_cases hx : ∃ v, fst ks n k v
    · obtain ⟨v, hv⟩ := hx; exact ⟨v, .inl hv⟩
    · by_cases hin : i = n
      · subst hin
        exact ⟨_, .inr ⟨fun x hx' => hx ⟨x, hx'⟩, h, rfl⟩⟩
      · obtain ⟨v, hv⟩ := fst_has h n (by omega)
        exact ⟨v, .inl hv⟩
theorem fst_is {ks : List ByteArray} : ∀ {n : Nat} {k : ByteArray} {v : Value}, fst ks n k v → ∃ i, i < n ∧ ks[i]? = some k ∧ ∃ z : Nat, v = .int .i64 (z : Int) ∧ z < n
  | n + 1, k, v, .inl h => by obtain ⟨i, h1, h2, z, h3, h4⟩ := fst_is h; exact ⟨i, by omega, h2, z, h3, by omega⟩
  | n + 1, k, v, .inr h => ⟨n, by omega, h.2.1, n, h.2.2, by omega⟩
theorem fst_same {ks : List ByteArray} {n : Nat} {key : ByteArray} (hk : ks[n]? = some key) {v : Value} (hv : fst ks n key v) (k : ByteArray) (x : Value) : fst ks n k x ↔ fst ks (n + 1) k x := by
  constructor
  · exact .inl
  · rintro (h | ⟨h1, h2, _⟩)
    · exact h
    · rw [hk] at h2
      obtain rfl := Option.some.inj h2
      exact absurd hv (h1 v)
theorem fst_next {ks : List ByteArray} {n : Nat} {key : ByteArray} (hk : ks[n]? = some key) (hv : ∀ v, ¬ fst ks n key v) (k : ByteArray) (x : Value) : ((k = key ∧ x = .int .i64 (n : Int)) ∨ (k ≠ key ∧ fst ks n k x)) ↔ fst ks (n + 1) k x := by
  constructor
  · rintro (⟨rfl, rfl⟩ | ⟨_, h⟩)
    · exact .inr ⟨hv, hk, rfl⟩
    · exact .inl h
  · rintro (h | ⟨_, h2, h3⟩)
    · exact .inr ⟨fun e => hv x (e ▸ h), h⟩
    · rw [hk] at h2
      exact .inl ⟨(Option.some.inj h2).symm, h3⟩

/-- what was put of G's, keys told by p -/
def some_ (G : ByteArray → Value → Prop) (p : Nat → Option ByteArray) (n : Nat) (k : ByteArray) (v : Value) : Prop := G k v ∧ ∃ i, i < n ∧ p i = some k
theorem some_next {G : ByteArray → Value → Prop} {p : Nat → Option ByteArray} {n : Nat} {key : ByteArray} {v : Value} (hG : ∀ k x y, G k x → G k y → x = y) (hk : p n = some key) (hv : G key v) (k : ByteArray) (x : Value) :
    ((k = key ∧ x = v) ∨ (k ≠ key ∧ some_ G p n k x)) ↔ some_ G p (n + 1) k x := by
  constructor
  · rintro (⟨rfl, rfl⟩ | ⟨_, h, i, h1, h2⟩)
    · exact ⟨hv, n, by omega, hk⟩
    · exact ⟨h, i, by omega, h2⟩
  · rintro ⟨h, i, h1, h2⟩
    by_cases e : k = key
    · subst e; exact .inl ⟨rfl, hG _ _ _ h hv⟩
    · refine .inr ⟨e, h, i, ?_, h2⟩
      by_cases hin : i = n
      · subst hin; rw [hk] at h2; exact absurd (Option.some.inj h2).symm e
      · omega

def others (os : List ByteArray) (n : Nat) (k : ByteArray) (v : Value) : Prop := (∃ i, i < n ∧ os[i]? = some k) ∧ v = .int .i64 (-1)
theorem others_next {os : List ByteArray} {n : Nat} {key : ByteArray} (hk : os[n]? = some key) (k : ByteArray) (x : Value) : ((k = key ∧ x = .int .i64 (-1)) ∨ (k ≠ key ∧ others os n k x)) ↔ others os (n + 1) k x := by
  constructor
  · rintro (⟨rfl, rfl⟩ | ⟨_, ⟨i, h1, h2⟩, h3⟩)
    · exact ⟨⟨n, by omega, hk⟩, rfl⟩
    · exact ⟨⟨i, by omega, h2⟩, h3⟩
  · rintro ⟨⟨i, h1, h2⟩, h3⟩
    by_cases e : k = key
    · exact .inl ⟨e, h3⟩
    · refine .inr ⟨e, ⟨i, ?_, h2⟩, h3⟩
      by_cases hin : i = n
      · subst hin; rw [hk] at h2; exact absurd (Option.some.inj h2).symm e
      · omega

/-- G's put over others -/
def over (G H : ByteArray → Value → Prop) (p : Nat → Option ByteArray) (n : Nat) (k : ByteArray) (v : Value) : Prop := some_ G p n k v ∨ ((∀ i, i < n → p i ≠ some k) ∧ H k v)
theorem over_next {G H : ByteArray → Value → Prop} {p : Nat → Option ByteArray} {n : Nat} {key : ByteArray} {v : Value} (hG : ∀ k x y, G k x → G k y → x = y) (hk : p n = some key) (hv : G key v) (k : ByteArray) (x : Value) :
    ((k = key ∧ x = v) ∨ (k ≠ key ∧ over G H p n k x)) ↔ over G H p (n + 1) k x := by
  have hs := some_next hG hk hv k x
  constructor
  · rintro (h | ⟨e, h | ⟨h1, h2⟩⟩)
    · exact .inl (hs.1 (.inl h))
    · exact .inl (hs.1 (.inr ⟨e, h⟩))
    · refine .inr ⟨fun i hi he => ?_, h2⟩
      by_cases hin : i = n
      · subst hin; rw [hk] at he; exact e (Option.some.inj he).symm
      · exact h1 i (by omega) he
  · rintro (h | ⟨h1, h2⟩)
    · rcases hs.2 h with h | ⟨e, h⟩
      · exact .inl h
      · exact .inr ⟨e, .inl h⟩
    · have e : k ≠ key := fun e => h1 n (by omega) (by rw [hk, e])
      exact .inr ⟨e, .inr ⟨fun i hi => h1 i (by omega), h2⟩⟩

/-- G, and what is left of the others -/
def left (G : ByteArray → Value → Prop) (os : List ByteArray) (mo n : Nat) (k : ByteArray) (v : Value) : Prop := G k v ∨ ((∀ x, ¬ G k x) ∧ others os mo k v ∧ ∀ i, i < n → os[i]? ≠ some k)
theorem left_zero {G : ByteArray → Value → Prop} {p : Nat → Option ByteArray} {os : List ByteArray} {mo n : Nat} (h1 : ∀ k v, G k v → ∃ i, i < n ∧ p i = some k) (h2 : ∀ i k, i < n → p i = some k → ∃ v, G k v) (k : ByteArray) (x : Value) :
    over G (others os mo) p n k x ↔ left G os mo 0 k x := by
  constructor
  · rintro (⟨h, _⟩ | ⟨h, h3⟩)
    · exact .inl h
    · exact .inr ⟨fun y hy => by obtain ⟨i, hi, he⟩ := h1 k y hy; exact h i hi he, h3, fun i hi => by omega⟩
  · rintro (h | ⟨h, h3, _⟩)
    · exact .inl ⟨h, h1 k x h⟩
    · exact .inr ⟨fun i hi he => by obtain ⟨v, hv⟩ := h2 i k hi he; exact h v hv, h3⟩
theorem left_same {G : ByteArray → Value → Prop} {os : List ByteArray} {mo n : Nat} {key : ByteArray} {v : Value} (hk : os[n]? = some key) (hv : G key v) (k : ByteArray) (x : Value) : left G os mo n k x ↔ left G os mo (n + 1) k x := by
  constructor
  · rintro (h | ⟨h1, h2, h3⟩)
    · exact .inl h
    · refine .inr ⟨h1, h2, fun i hi he => ?_⟩
      by_cases hin : i = n
      · subst hin; rw [hk] at he; obtain rfl := Option.some.inj he; exact h1 v hv
      · exact h3 i (by omega) he
  · rintro (h | ⟨h1, h2, h3⟩)
    · exact .inl h
    · exact .inr ⟨h1, h2, fun i hi => h3 i (by omega)⟩
theorem left_next {G : ByteArray → Value → Prop} {os : List ByteArray} {mo n : Nat} {key : ByteArray} (hk : os[n]? = some key) (hv : ∀ v, ¬ G key v) (k : ByteArray) (x : Value) : (k ≠ key ∧ left G os mo n k x) ↔ left G os mo (n + 1) k x := by
  constructor
  · rintro ⟨e, h | ⟨h1, h2, h3⟩⟩
    · exact .inl h
    · refine .inr ⟨h1, h2, fun i hi he => ?_⟩
      by_cases hin : i = n
      · subst hin; rw [hk] at he; exact e (Option.some.inj he).symm
      · exact h3 i (by omega) he
  · rintro (h | ⟨h1, h2, h3⟩)
    · exact ⟨fun e => hv x (e ▸ h), .inl h⟩
    · exact ⟨fun e => h3 n (by omega) (by rw [hk, e]), .inr ⟨h1, h2, fun i hi => h3 i (by omega)⟩⟩
theorem left_end {G : ByteArray → Value → Prop} {os : List ByteArray} {mo : Nat} (k : ByteArray) (x : Value) : left G os mo mo k x ↔ G k x := by
  constructor
  · rintro (h | ⟨_, ⟨⟨i, hi, he⟩, _⟩, h3⟩)
    · exact h
    · exact absurd he (h3 i hi)
  · exact .inl

/-- the turned row of keys -/
theorem turn_hits {n turn j : Nat} (hj : j < n) (ht : turn < n) : ∃ i, i < n ∧ (i + turn) % n = j := by
  by_cases h : turn ≤ j
  · exact ⟨j - turn, by omega, by rw [Nat.sub_add_cancel h, Nat.mod_eq_of_lt hj]⟩
  · refine ⟨j + n - turn, by omega, ?_⟩
    rw [show j + n - turn + turn = j + n by omega, Nat.add_mod_right, Nat.mod_eq_of_lt hj]

end Go.Proofs.Ytdijbgkfdfchoaa.treeOrders
