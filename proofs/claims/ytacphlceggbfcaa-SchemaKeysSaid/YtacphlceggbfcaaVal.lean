/-
  Values: what they are as bytes, which are right, and what bytes are read as: plain facts, nothing of the program.
-/
import Derived.Test.YtacphlceggbfcaaRound
import Derived.Test.YtacphlceggbfcaaKeys
namespace Go.Proofs.Ytacphlceggbfcaa

inductive V where
  | mk (kind : Int) (yes : Bool) (num : Int) (text : ByteArray) (list : List V) (fields : List (ByteArray × V))

namespace V
def kind : V → Int | .mk k _ _ _ _ _ => k
def yes : V → Bool | .mk _ y _ _ _ _ => y
def num : V → Int | .mk _ _ n _ _ _ => n
def text : V → ByteArray | .mk _ _ _ t _ _ => t
def list : V → List V | .mk _ _ _ _ l _ => l
def fields : V → List (ByteArray × V) | .mk _ _ _ _ _ f => f
end V

abbrev Fd := ByteArray × V

mutual
/-- how deep a value is -/
def V.dep : V → Nat
  | .mk _ _ _ _ l f => 1 + max (depL l) (depF f)
def depL : List V → Nat
  | [] => 0
  | v :: l => max v.dep (depL l)
def depF : List (ByteArray × V) → Nat
  | [] => 0
  | p :: l => max (V.dep p.2) (depF l)
end

theorem depL_mem {l : List V} {v : V} (h : v ∈ l) : v.dep ≤ depL l := by
  induction l with
  | nil => cases h
  | cons x l ih =>
    unfold depL
    rcases List.mem_cons.1 h with rfl | h
    · omega
    · have := ih h; omega

theorem depF_mem {l : List Fd} {p : Fd} (h : p ∈ l) : p.2.dep ≤ depF l := by
  induction l with
  | nil => cases h
  | cons x l ih =>
    unfold depF
    rcases List.mem_cons.1 h with rfl | h
    · omega
    · have := ih h; omega

theorem dep_list {v x : V} (h : x ∈ v.list) : x.dep < v.dep := by
  cases v with
  | mk k y n t l f => have h1 := depL_mem (l := l) h; rw [show (V.mk k y n t l f).dep = 1 + max (depL l) (depF f) from rfl]; omega

theorem dep_fields {v : V} {p : Fd} (h : p ∈ v.fields) : p.2.dep < v.dep := by
  cases v with
  | mk k y n t l f => have h1 := depF_mem (l := f) h; rw [show (V.mk k y n t l f).dep = 1 + max (depL l) (depF f) from rfl]; omega

theorem V.eta (v : V) : v = .mk v.kind v.yes v.num v.text v.list v.fields := by cases v; rfl

/-- a number, folded such that those near 0 are small -/
def foldI (n : Int) : Nat := if 0 ≤ n then (2 * n).toNat else (-2 * n - 1).toNat
def unfoldI (m : Nat) : Int := if m % 2 = 0 then ((m / 2 : Nat) : Int) else -((m / 2 : Nat) : Int) - 1

theorem unfold_fold (n : Int) : unfoldI (foldI n) = n := by
  unfold foldI unfoldI
  split <;> split <;> omega
theorem fold_unfold (m : Nat) : foldI (unfoldI m) = m := by
  unfold foldI unfoldI
  split <;> split <;> omega
theorem fold_lt {n : Int} (h : Is64 n) : foldI n < 18446744073709551616 := by
  unfold Is64 at h; unfold foldI; split <;> omega
theorem unfold_is64 {m : Nat} (h : m < 18446744073709551616) : Is64 (unfoldI m) := by
  unfold Is64 unfoldI; split <;> omega

def layI (n : Int) : L8 := octN (foldI n / 4294967296) ++ octN (foldI n % 4294967296)

mutual
/-- a value as bytes -/
def V.lay : V → L8
  | .mk k y n t l f => UInt8.ofNat k.toNat :: (if k = 1 then octF y else if k = 2 then layI n else if k = 3 then octT t else if k = 4 then octN l.length ++ layL l else if k = 5 then octN f.length ++ layF f else [])
def layL : List V → L8
  | [] => []
  | v :: l => v.lay ++ layL l
def layF : List (ByteArray × V) → L8
  | [] => []
  | p :: l => octT p.1 ++ (V.lay p.2 ++ layF l)
end

theorem layL_append (a b : List V) : layL (a ++ b) = layL a ++ layL b := by
  induction a with
  | nil => rfl
  | cons v a ih => simp [layL, ih]
theorem layF_append (a b : List Fd) : layF (a ++ b) = layF a ++ layF b := by
  induction a with
  | nil => rfl
  | cons v a ih => simp [layF, ih]

/-- does a value have nothing that its kind doesn't have? -/
def plainP (k : Int) (y : Bool) (n : Int) (t : ByteArray) (l : List V) (f : List (ByteArray × V)) : Bool :=
  decide (0 ≤ k) && decide (k ≤ 5) && (k == 1 || !y) && (k == 2 || n == 0) && (k == 3 || decide (t = ⟨#[]⟩)) && (k == 4 || decide (l.length = 0)) && (k == 5 || decide (f.length = 0))
def plainB (v : V) : Bool := plainP v.kind v.yes v.num v.text v.list v.fields

def nameLt (p : Option ByteArray) (n : ByteArray) : Bool := match p with | none => true | some m => decide (m.data.toList < n.data.toList)

mutual
/-- is a value right, with so many levels at most? -/
def V.right : V → Int → Bool
  | .mk k y n t l f, d => decide (1 ≤ d) && plainB (.mk k y n t l f) && rightL l (d - 1) && rightF none f (d - 1)
def rightL : List V → Int → Bool
  | [], _ => true
  | v :: l, d => v.right d && rightL l d
def rightF : Option ByteArray → List (ByteArray × V) → Int → Bool
  | _, [], _ => true
  | m, p :: l, d => nameLt m p.1 && V.right p.2 d && rightF (some p.1) l d
end

theorem rightL_iff {l : List V} {d : Int} : rightL l d = true ↔ ∀ v ∈ l, v.right d = true := by
  induction l with
  | nil => simp [rightL]
  | cons v l ih => simp [rightL, ih]

theorem rightF_iff : ∀ {l : List Fd} {m : Option ByteArray} {d : Int}, rightF m l d = true ↔
    (∀ i (h : i < l.length), (l[i]).2.right d = true ∧ nameLt (if h0 : 0 < i then some (l[i - 1]'(by omega)).1 else m) (l[i]).1 = true)
  | [], m, d => by simp [rightF]
  | p :: l, m, d => by
    rw [rightF, Bool.and_eq_true, Bool.and_eq_true, rightF_iff (l := l)]
    constructor
    · rintro ⟨⟨h1, h2⟩, h3⟩ i hi
      match i, hi with
      | 0, _ => exact ⟨h2, by simpa using h1⟩
      | i + 1, hi =>
        have h4 := h3 i (by simpa using hi)
        refine ⟨by simpa using h4.1, ?_⟩
        rw [dif_pos (by omega)]
        have h5 := h4.2
        by_cases h0 : 0 < i
        · rw [dif_pos h0] at h5
          obtain ⟨j, rfl⟩ : ∃ j, i = j + 1 := ⟨i - 1, by omega⟩
          simpa using h5
        · obtain rfl : i = 0 := by omega
          simpa using h5
    · intro h
      refine ⟨⟨?_, ?_⟩, ?_⟩
      · have := (h 0 (by simp)).2; simpa using this
      · have := (h 0 (by simp)).1; simpa using this
      · intro i hi
        have h4 := h (i + 1) (by simpa using hi)
        refine ⟨by simpa using h4.1, ?_⟩
        have h5 := h4.2
        rw [dif_pos (by omega)] at h5
        by_cases h0 : 0 < i
        · rw [dif_pos h0]
          obtain ⟨j, rfl⟩ : ∃ j, i = j + 1 := ⟨i - 1, by omega⟩
          simpa using h5
        · obtain rfl : i = 0 := by omega
          simpa using h5

/-- what bytes are read as: an error's number, or what was read and what is left -/
def decList (f : L8 → Int ⊕ (V × L8)) : Nat → L8 → Int ⊕ (List V × L8)
  | 0, l => .inr ([], l)
  | n + 1, l => match f l with
    | .inl e => .inl e
    | .inr (v, r) => match decList f n r with
      | .inl e => .inl e
      | .inr (vs, r') => .inr (v :: vs, r')

def decFields (f : L8 → Int ⊕ (V × L8)) : Option ByteArray → Nat → L8 → Int ⊕ (List Fd × L8)
  | _, 0, l => .inr ([], l)
  | m, n + 1, l => match textRead l 4096 with
    | none => .inl 2
    | some (t, r) => if nameLt m ⟨t.toArray⟩ = false then .inl 2 else match f r with
      | .inl e => .inl e
      | .inr (v, r) => match decFields f (some ⟨t.toArray⟩) n r with
        | .inl e => .inl e
        | .inr (vs, r') => .inr ((⟨t.toArray⟩, v) :: vs, r')

def V.null : V := .mk 0 false 0 ⟨#[]⟩ [] []
def V.ofBool (y : Bool) : V := .mk 1 y 0 ⟨#[]⟩ [] []
def V.ofInt (n : Int) : V := .mk 2 false n ⟨#[]⟩ [] []
def V.ofText (t : ByteArray) : V := .mk 3 false 0 t [] []
def V.ofList (l : List V) : V := .mk 4 false 0 ⟨#[]⟩ l []
def V.ofMap (f : List Fd) : V := .mk 5 false 0 ⟨#[]⟩ [] f

def numI (r : L8) : Option (Int × L8) := match numRead r 4294967295 with
  | none => none
  | some (u, r1) => match numRead r1 4294967295 with
    | none => none
    | some (o, r2) => some (unfoldI (u * 4294967296 + o), r2)

def decV : Nat → L8 → Int ⊕ (V × L8)
  | 0, _ => .inl 3
  | _ + 1, [] => .inl 2
  | d + 1, c :: r =>
    if c = 0 then .inr (V.null, r)
    else if c = 1 then (match flagRead r with | none => .inl 2 | some (y, r) => .inr (V.ofBool y, r))
    else if c = 2 then (match numI r with | none => .inl 2 | some (n, r) => .inr (V.ofInt n, r))
    else if c = 3 then (match textRead r 4096 with | none => .inl 2 | some (t, r) => .inr (V.ofText ⟨t.toArray⟩, r))
    else if c = 4 then (match numRead r 9223372036854775807 with | none => .inl 2 | some (n, r) => match decList (decV d) n r with | .inl e => .inl e | .inr (vs, r) => .inr (V.ofList vs, r))
    else if c = 5 then (match numRead r 9223372036854775807 with | none => .inl 2 | some (n, r) => match decFields (decV d) none n r with | .inl e => .inl e | .inr (vs, r) => .inr (V.ofMap vs, r))
    else .inl 2

end Go.Proofs.Ytacphlceggbfcaa
