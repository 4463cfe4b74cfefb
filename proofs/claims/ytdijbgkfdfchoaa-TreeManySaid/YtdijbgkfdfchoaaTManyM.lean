/-
  TreeMany: its keys, plainly.
-/
import Derived.Test.YtdijbgkfdfchoaaTFromMI
namespace Go.Proofs.Ytdijbgkfdfchoaa.treeMany
open Go.RowKit Go.Proofs.Ytdijbgkfdfchoaa.tI

/-- the key of a number -/
def nm (i : Nat) : ByteArray := ⟨#[UInt8.ofNat (i / 256), UInt8.ofNat (i % 256)]⟩
def kv (i : Nat) : KV := (nm i, .int .i64 (i : Int))

theorem nm_lt {i j : Nat} (hi : i < 1024) (hj : j < 1024) : Lt (nm i) (nm j) ↔ i < j := by
  unfold Lt nm
  simp only [List.cons_lt_cons_iff, UInt8.lt_iff_toNat_lt, ← UInt8.toNat_inj, UInt8.toNat_ofNat', List.lt_irrefl, and_false, or_false]
  omega
theorem nm_inj {i j : Nat} (hi : i < 1024) (hj : j < 1024) (h : nm i = nm j) : i = j := by
  rcases Nat.lt_trichotomy i j with k | k | k
  · exact absurd ((nm_lt hi hj).2 k) (by rw [h]; exact Lt.irrefl _)
  · exact k
  · exact absurd ((nm_lt hj hi).2 k) (by rw [h]; exact Lt.irrefl _)

/-- the numbers of a set, below one, as keys -/
def cont (S : Nat → Bool) (n : Nat) : List KV := ((List.range n).filter S).map kv

theorem cont_congr {S T : Nat → Bool} {n : Nat} (h : ∀ j, j < n → S j = T j) : cont S n = cont T n := by
  unfold cont
  rw [List.filter_congr fun j hj => h j (List.mem_range.1 hj)]
theorem cont_succ (S : Nat → Bool) (n : Nat) : cont S (n + 1) = cont S n ++ (if S n then [kv n] else []) := by
  unfold cont
  rw [List.range_succ, List.filter_append, List.map_append]
  congr 1
  by_cases h : S n <;> simp [h]
theorem cont_zero (S : Nat → Bool) : cont S 0 = [] := rfl
theorem cont_mem {S : Nat → Bool} {n : Nat} {p : KV} (h : p ∈ cont S n) : ∃ j, j < n ∧ S j = true ∧ p = kv j := by
  obtain ⟨j, hj, rfl⟩ := List.mem_map.1 h
  obtain ⟨h1, h2⟩ := List.mem_filter.1 hj
  exact ⟨j, List.mem_range.1 h1, h2, rfl⟩
theorem cont_len (S : Nat → Bool) (n : Nat) : (cont S n).length ≤ n := by
  unfold cont
  rw [List.length_map]
  exact Nat.le_trans (List.length_filter_le _ _) (by simp)

/-- the numbers below one, cut at one of them -/
theorem cont_cut (S : Nat → Bool) {n k : Nat} (hk : k < n) : ∃ Y, cont S n = cont S k ++ ((if S k then [kv k] else []) ++ Y) ∧ ∀ p ∈ Y, ∃ j, k < j ∧ j < n ∧ S j = true ∧ p = kv j := by
  induction n with
  | zero => omega
  | succ n ih =>
    rw [cont_succ]
    by_cases e : k = n
    · subst e
      exact ⟨[], by simp, by simp⟩
    · obtain ⟨Y, h1, h2⟩ := ih (by omega)
      refine ⟨Y ++ (if S n then [kv n] else []), by rw [h1]; simp, fun p hp => ?_⟩
      rcases List.mem_append.1 hp with h | h
      · obtain ⟨j, h3, h4, h5⟩ := h2 p h
        exact ⟨j, h3, by omega, h5⟩
      · by_cases hS : S n
        · rw [if_pos hS] at h
          obtain rfl : p = kv n := by simpa using h
          exact ⟨n, by omega, by omega, hS, rfl⟩
        · rw [if_neg hS] at h; cases h

theorem cont_put {S : Nat → Bool} {n k : Nat} (hn : n ≤ 1024) (hk : k < n) : putK (cont S n) (nm k) (.int .i64 (k : Int)) = cont (fun j => S j || j == k) n := by
  obtain ⟨Y, h1, h2⟩ := cont_cut S hk
  obtain ⟨Z, h3, h4⟩ := cont_cut (fun j => S j || j == k) hk
  have hX : ∀ p ∈ cont S k, Lt p.1 (nm k) := fun p hp => by
    obtain ⟨j, h5, _, rfl⟩ := cont_mem hp
    exact (nm_lt (by omega) (by omega)).2 h5
  have hY : ∀ p ∈ Y, Lt (nm k) p.1 := fun p hp => by
    obtain ⟨j, h5, h6, _, rfl⟩ := h2 p hp
    exact (nm_lt (by omega) (by omega)).2 h5
  have e : cont (fun j => S j || j == k) n = cont S k ++ kv k :: Y := by
    clear h3 h4 Z
    induction n generalizing Y with
    | zero => omega
    | succ n ih =>
      rw [cont_succ] at h1 ⊢
      by_cases e : k = n
      · subst e
        have e2 : Y = [] := by
          cases Y with
          | nil => rfl
          | cons y r =>
            obtain ⟨j, h5, h6, _⟩ := h2 y List.mem_cons_self
            omega
        subst e2
        rw [cont_congr (T := S) fun j hj => by simp; omega]
        simp
      · obtain ⟨Y', h5, h6⟩ := cont_cut S (n := n) (k := k) (by omega)
        have h7 := ih (by omega) (by omega) Y' h5 h6 (fun p hp => by
          obtain ⟨j, h8, h9, _, rfl⟩ := h6 p hp
          exact (nm_lt (by omega) (by omega)).2 h8)
        rw [h5] at h1
        have h8 : Y = Y' ++ (if S n then [kv n] else []) := by
          simp only [List.append_assoc, List.append_cancel_left_eq] at h1
          exact h1.symm
        rw [h7, h8]
        have h9 : (S n || n == k) = S n := by
          have : (n == k) = false := by simpa using (fun h => e h.symm)
          rw [this]; simp
        rw [h9]
        simp
  rw [e, h1]
  by_cases hS : S k
  · rw [if_pos hS]
    exact (ops_is (v := .int .i64 (k : Int)) hX hY).2.1 _
  · rw [if_neg hS, List.nil_append]
    exact (ops_no hX hY).2.1 _

theorem cont_get {S : Nat → Bool} {n k : Nat} (hn : n ≤ 1024) (hk : k < n) : (getK (cont S n) (nm k)).isSome = S k := by
  obtain ⟨Y, h1, h2⟩ := cont_cut S hk
  have hX : ∀ p ∈ cont S k, Lt p.1 (nm k) := fun p hp => by
    obtain ⟨j, h5, _, rfl⟩ := cont_mem hp
    exact (nm_lt (by omega) (by omega)).2 h5
  have hY : ∀ p ∈ Y, Lt (nm k) p.1 := fun p hp => by
    obtain ⟨j, h5, h6, _, rfl⟩ := h2 p hp
    exact (nm_lt (by omega) (by omega)).2 h5
  rw [h1]
  cases hS : S k with
  | true =>
    rw [if_pos rfl]
    have := (ops_is (v := .int .i64 (k : Int)) hX hY).1
    rw [show cont S k ++ ([kv k] ++ Y) = cont S k ++ (nm k, .int .i64 (k : Int)) :: Y from rfl, this]
    rfl
  | false =>
    rw [if_neg (by simp), List.nil_append, (ops_no hX hY).1]
    rfl

theorem cont_drop {S : Nat → Bool} {n k : Nat} (hn : n ≤ 1024) (hk : k < n) : dropK (cont S n) (nm k) = cont (fun j => S j && j != k) n := by
  unfold dropK cont
  rw [List.filter_map, List.filter_filter]
  congr 1
  refine List.filter_congr fun j hj => ?_
  have hj := List.mem_range.1 hj
  have e : decide (nm j ≠ nm k) = (j != k) := by
    by_cases h : j = k
    · subst h; simp
    · have : nm j ≠ nm k := fun e => h (nm_inj (by omega) (by omega) e)
      simp [this, h]
  show (decide (nm j ≠ nm k) && S j) = _
  rw [e, Bool.and_comm]

/-! an odd number and 1024 -/
theorem inv_all : (List.range 512).all (fun s => ((2 * s + 1) ^ 255 % 1024 * (2 * s + 1)) % 1024 == 1) = true := by decide +kernel
theorem odd_hits {s j : Nat} (hs : s < 512) (hj : j < 1024) : ∃ i, i < 1024 ∧ i * (2 * s + 1) % 1024 = j := by
  have h := List.all_eq_true.1 inv_all s (List.mem_range.2 hs)
  have h1 : ((2 * s + 1) ^ 255 % 1024 * (2 * s + 1)) % 1024 = 1 := by simpa using h
  obtain ⟨v, hv⟩ : ∃ v, v = (2 * s + 1) ^ 255 % 1024 := ⟨_, rfl⟩
  rw [← hv] at h1
  refine ⟨j * v % 1024, Nat.mod_lt _ (by omega), ?_⟩
  rw [Nat.mod_mul_mod, Nat.mul_assoc, Nat.mul_mod, h1, Nat.mul_one, Nat.mod_mod]
  omega

/-- the numbers that came in so many rounds -/
def S1 (step i : Nat) (j : Nat) : Bool := (List.range i).any fun r => r * step % 1024 == j
theorem S1_next (step i j : Nat) : S1 step (i + 1) j = (S1 step i j || j == i * step % 1024) := by
  unfold S1
  rw [List.range_succ, List.any_append]
  congr 1
  show ((i * step % 1024 == j) || false) = _
  rw [Bool.or_false]
  exact BEq.comm
theorem S1_all {s j : Nat} (hs : s < 512) (hj : j < 1024) : S1 (2 * s + 1) 1024 j = true := by
  obtain ⟨i, h1, h2⟩ := odd_hits hs hj
  exact List.any_eq_true.2 ⟨i, List.mem_range.2 h1, by simp [h2]⟩

/-- those that are left of them -/
def S2 (d i : Nat) (j : Nat) : Bool := !(decide (j < i) && j % d == 0)
def S3 (d : Nat) (j : Nat) : Bool := !(j % d == 0)
theorem S2_zero (d : Nat) : S2 d 0 = fun _ => true := by funext j; simp [S2]
theorem S2_next {d i : Nat} (h : i % d = 0) (j : Nat) : S2 d (i + 1) j = (S2 d i j && j != i) := by
  unfold S2
  by_cases e : j = i
  · subst e; simp [h]
  · have h1 : decide (j < i + 1) = decide (j < i) := by
      by_cases h2 : j < i
      · rw [decide_eq_true h2, decide_eq_true (by omega)]
      · rw [decide_eq_false h2, decide_eq_false (by omega)]
    rw [h1]; simp [e]
theorem S2_same {d i : Nat} (h : ¬ i % d = 0) (j : Nat) : S2 d (i + 1) j = S2 d i j := by
  unfold S2
  by_cases e : j = i
  · subst e; simp [h]
  · have h1 : decide (j < i + 1) = decide (j < i) := by
      by_cases h2 : j < i
      · rw [decide_eq_true h2, decide_eq_true (by omega)]
      · rw [decide_eq_false h2, decide_eq_false (by omega)]
    rw [h1]
theorem S2_end {d n j : Nat} (hj : j < n) : S2 d n j = S3 d j := by unfold S2 S3; simp [hj]

/-- the next one that is left -/
def nx (d q : Nat) : Nat := if q % d = 0 then q + 1 else q
theorem nx_S3 {d q : Nat} (hd : 2 ≤ d) : S3 d (nx d q) = true := by
  unfold nx S3
  split
  · rename_i h
    have : (q + 1) % d ≠ 0 := fun e => by
      obtain ⟨a, ha⟩ := Nat.dvd_of_mod_eq_zero h
      obtain ⟨b, hb⟩ := Nat.dvd_of_mod_eq_zero e
      have h1 : d * (b - a) = 1 := by rw [Nat.mul_sub]; omega
      have h2 : d ∣ 1 := ⟨_, h1.symm⟩
      have := Nat.le_of_dvd (by omega) h2
      omega
    simp [this]
  · rename_i h; simp [h]
theorem cont_next {d q : Nat} (hd : 2 ≤ d) : cont (S3 d) (nx d q + 1) = cont (S3 d) q ++ [kv (nx d q)] := by
  rw [cont_succ, nx_S3 hd, if_pos rfl]
  congr 1
  unfold nx
  split
  · rename_i h
    rw [cont_succ, if_neg (by simp [S3, h]), List.append_nil]
  · rfl

/-- what comes behind the first ones -/
theorem cont_first {d q n : Nat} (hd : 2 ≤ d) (hq : q ≤ n) {x : KV} (h : cont (S3 d) q ++ [x] <+: cont (S3 d) n) : nx d q < n ∧ x = kv (nx d q) := by
  have hlt : nx d q < n := by
    rcases Nat.lt_or_ge (nx d q) n with h1 | h1
    · exact h1
    · exfalso
      have e : cont (S3 d) n = cont (S3 d) q := by
        unfold nx at h1
        split at h1
        · rename_i hz
          rcases Nat.lt_or_ge q n with h2 | h2
          · obtain rfl : n = q + 1 := by omega
            rw [cont_succ, if_neg (by simp [S3, hz]), List.append_nil]
          · obtain rfl : n = q := by omega
            rfl
        · obtain rfl : n = q := by omega
          rfl
      have h3 := h.length_le
      rw [e, List.length_append] at h3
      simp at h3
      omega
  refine ⟨hlt, ?_⟩
  obtain ⟨Y, h1, _⟩ := cont_cut (S3 d) hlt
  have h2 : cont (S3 d) n = cont (S3 d) q ++ (kv (nx d q) :: Y) := by
    have h3 := cont_next (q := q) hd
    rw [cont_succ, nx_S3 hd, if_pos rfl] at h3
    rw [h1, nx_S3 hd, if_pos rfl, ← List.append_assoc, h3, List.append_assoc]
    rfl
  rw [h2, List.prefix_append_right_inj] at h
  obtain ⟨r, hr⟩ := h
  injection hr
theorem cont_end {d q n : Nat} (hd : 2 ≤ d) (h : cont (S3 d) q = cont (S3 d) n) : n ≤ q + 1 := by
  rcases Nat.lt_or_ge (q + 1) n with h1 | h1
  · exfalso
    have hlt : nx d q < n := by unfold nx; split <;> omega
    obtain ⟨Y, h2, _⟩ := cont_cut (S3 d) hlt
    have h3 := cont_next (q := q) hd
    rw [cont_succ, nx_S3 hd, if_pos rfl] at h3
    rw [nx_S3 hd, if_pos rfl, ← List.append_assoc, h3] at h2
    have h4 := congrArg List.length h2
    rw [← h] at h4
    simp at h4
  · exact h1

theorem cont_count {d : Nat} (h2 : 2 ≤ d) (h9 : d ≤ 9) : ∀ n, (cont (S3 d) n).length + (n + d - 1) / d = n
  | 0 => by
    rw [cont_zero]
    show 0 + (0 + d - 1) / d = 0
    rw [Nat.div_eq_of_lt (by omega)]
  | n + 1 => by
    have ih := cont_count h2 h9 n
    rw [cont_succ, List.length_append]
    have hd : d = 2 ∨ d = 3 ∨ d = 4 ∨ d = 5 ∨ d = 6 ∨ d = 7 ∨ d = 8 ∨ d = 9 := by omega
    by_cases h : n % d = 0
    · have e : S3 d n = false := by simp [S3, h]
      rw [e]
      simp only [Bool.false_eq_true, if_false, List.length_nil]
      rcases hd with rfl | rfl | rfl | rfl | rfl | rfl | rfl | rfl <;> omega
    · have e : S3 d n = true := by simp [S3, h]
      rw [e]
      simp only [if_true, List.length_cons, List.length_nil]
      rcases hd with rfl | rfl | rfl | rfl | rfl | rfl | rfl | rfl <;> omega

theorem from_all (m : List KV) : fromK m ⟨#[]⟩ = m := by
  unfold fromK
  refine List.filter_eq_self.2 fun p _ => ?_
  have : ¬ Lt p.1 ⟨#[]⟩ := by unfold Lt; exact List.not_lt_nil _
  simp [this]

end Go.Proofs.Ytdijbgkfdfchoaa.treeMany
