/-
  What patch's operations make of values: plain facts, nothing of the program.
  patch.add.
  patch.place: where a field of a name is, or belongs: slices.BinarySearchFunc at fields, by hand.
  Fields appended to a row of fields: to one that the call owns, or to an empty slice with no room.
  patch: a copy of fields; Op.field at the end of a path.
  patch: Op.along, given what Op.field does with the field.
-/
import Derived.Test.YtljhcnlifdmacaaVFew
import Derived.Test.YtljhcnlifdmacaaVClone
import Derived.Test.YtljhcnlifdmacaaVGet2
import Derived.Test.YtljhcnlifdmacaaValHead
import Derived.Test.YtljhcnlifdmacaaValCmp
import Derived.Test.YtljhcnlifdmacaaVSame
import Derived.Test.YtljhcnlifdmacaaVCmpLaws
import Derived.Test.YtljhcnlifdmacaaPTwA
import Derived.WalkKit
import Derived.Laws.Cover3
import Derived.Test.YtljhcnlifdmacaaMid
import Derived.Deep.RegionWith
import Derived.Deep.CutRange
import Derived.Deep.DeepCutAuto
import Derived.Deep.RegionHeld3
import Derived.Outline
section
namespace Go.Proofs.Ytljhcnlifdmacaa

/-- an operation -/
structure PO where
  kind : Int
  path : List ByteArray
  val : V

def RiseP (f : List Fd) : Prop := f.Pairwise fun p q => p.1.data.toList < q.1.data.toList

mutual
/-- lists of k at most; the names of each map's fields rise -/
def V.okv : V → Nat → Prop
  | .mk _ _ n _ l f, k => (l.length ≤ k ∧ f.length ≤ k ∧ RiseP f ∧ Is64 n) ∧ okL l k ∧ okvF f k
def okL : List V → Nat → Prop
  | [], _ => True
  | v :: l, k => v.okv k ∧ okL l k
def okvF : List (ByteArray × V) → Nat → Prop
  | [], _ => True
  | p :: l, k => V.okv p.2 k ∧ okvF l k
end

theorem okL_iff {l : List V} {k : Nat} : okL l k ↔ ∀ v ∈ l, v.okv k := by
  induction l with
  | nil => simp [okL]
  | cons v l ih => simp [okL, ih]
theorem okvF_iff {l : List Fd} {k : Nat} : okvF l k ↔ ∀ p ∈ l, p.2.okv k := by
  induction l with
  | nil => simp [okvF]
  | cons v l ih => simp only [okvF, ih, List.mem_cons, forall_eq_or_imp]

theorem okv_iff {v : V} {k : Nat} : v.okv k ↔ (v.list.length ≤ k ∧ v.fields.length ≤ k ∧ RiseP v.fields ∧ Is64 v.num) ∧ (∀ x ∈ v.list, x.okv k) ∧ ∀ p ∈ v.fields, p.2.okv k := by
  cases v with
  | mk kk y n t l f =>
    rw [V.okv, okL_iff, okvF_iff]
    exact Iff.rfl

theorem okv_mono {k k' : Nat} (hk : k ≤ k') : ∀ (N : Nat) (v : V), v.dep ≤ N → v.okv k → v.okv k'
  | 0, v, hd, _ => by
    cases v
    rw [V.dep] at hd
    omega
  | N + 1, v, hd, h => by
    rw [okv_iff] at h ⊢
    obtain ⟨⟨h1, h2, h3, h6⟩, h4, h5⟩ := h
    exact ⟨⟨by omega, by omega, h3, h6⟩, fun x hx => okv_mono hk N x (by have := dep_list hx; omega) (h4 x hx), fun p hp => okv_mono hk N p.2 (by have := dep_fields hp; omega) (h5 p hp)⟩

theorem okv_sm {k : Nat} (hk : k ≤ 100000) : ∀ (N : Nat) (v : V), v.dep ≤ N → v.okv k → v.sm
  | 0, v, hd, _ => by
    cases v
    rw [V.dep] at hd
    omega
  | N + 1, .mk kk y n t l f, hd, h => by
    obtain ⟨⟨h1, h2, h3, _⟩, h4, h5⟩ := okv_iff.1 h
    exact ⟨⟨Nat.le_trans h1 hk, Nat.le_trans h2 hk⟩, smL_iff.2 fun x hx => okv_sm hk N x (by have := dep_list (v := .mk kk y n t l f) hx; omega) (h4 x hx), smF_iff.2 fun p hp => okv_sm hk N p.2 (by have := dep_fields (v := .mk kk y n t l f) hp; omega) (h5 p hp)⟩

theorem V.okv.sm {v : V} {k : Nat} (h : v.okv k) (hk : k ≤ 100000) : v.sm := okv_sm hk v.dep v (Nat.le_refl _) h
theorem V.okv.mono {v : V} {k k' : Nat} (h : v.okv k) (hk : k ≤ k') : v.okv k' := okv_mono hk v.dep v (Nat.le_refl _) h

theorem rise_adj {f : List Fd} (h : ∀ i (h : i + 1 < f.length), (f[i]'(by omega)).1.data.toList < (f[i + 1]).1.data.toList) : RiseP f := by
  refine List.pairwise_iff_getElem.2 fun i j hi hj hij => ?_
  obtain ⟨d, rfl⟩ : ∃ d, j = i + 1 + d := ⟨j - i - 1, by omega⟩
  induction d with
  | zero => exact h i (by omega)
  | succ d ih =>
    have h1 := ih (by omega) (by omega)
    have h2 := h (i + 1 + d) (by omega)
    exact List.lt_trans h1 h2

theorem right_rise {v : V} {d : Int} (h : v.right d = true) : RiseP v.fields := by
  cases v with
  | mk k y n t l f =>
    rw [V.right, Bool.and_eq_true] at h
    refine rise_adj fun i hi => ?_
    have h1 := (rightF_iff.1 h.2 (i + 1) hi).2
    rw [dif_pos (by omega)] at h1
    unfold nameLt at h1
    exact of_decide_eq_true h1

theorem okv_few : ∀ (N : Nat) (v : V) (d : Int) (r : Int), v.dep ≤ N → v.few d = true → v.right r = true → v.n64 → v.okv 8
  | 0, v, d, r, hd, _, _, _ => by
    cases v
    rw [V.dep] at hd
    omega
  | N + 1, .mk k y n t l f, d, r, hd, h, hr, hn => by
    have hdl : ∀ x ∈ l, x.dep ≤ N := fun x hx => by have := dep_list (v := .mk k y n t l f) hx; omega
    have hdf : ∀ p ∈ f, p.2.dep ≤ N := fun p hp => by have := dep_fields (v := .mk k y n t l f) hp; omega
    obtain ⟨n1, n2, n3⟩ := hn
    have hrise := right_rise hr
    rw [V.few] at h
    simp only [Bool.and_eq_true, decide_eq_true_eq] at h
    obtain ⟨_, h2, h3, _, h5, h6⟩ := h
    rw [V.right, Bool.and_eq_true, Bool.and_eq_true] at hr
    obtain ⟨⟨_, hL⟩, hF⟩ := hr
    refine okv_iff.2 ⟨⟨h2, h3, hrise, n1⟩, fun x hx => okv_few N x _ _ (hdl x hx) (fewL_iff.1 h5 x hx) (rightL_iff.1 hL x hx) (n64L_iff.1 n2 x hx), fun p hp => ?_⟩
    obtain ⟨g1, g2⟩ := fewF_iff.1 h6 p hp
    obtain ⟨i, hi, rfl⟩ := List.getElem_of_mem hp
    exact okv_few N _ _ _ (hdf _ hp) g2 (rightF_iff.1 hF i hi).1 (n64F_iff.1 n3 _ hp)

theorem getF_no {l : List Fd} {n : ByteArray} (h : ∀ p ∈ l, p.1 ≠ n) : getF l n = none := by
  induction l with
  | nil => rfl
  | cons p l ih =>
    rw [getF, if_neg (h p (by simp))]
    exact ih fun q hq => h q (by simp [hq])

/-- a name's value; null where there is none -/
def valF (f : List Fd) (n : ByteArray) : V := (getF f n).getD V.null

/-- how many fields' names are ahead of a name; whether one is it -/
def atF (f : List Fd) (n : ByteArray) : Nat := f.countP fun p => decide (p.1.data.toList < n.data.toList)
def isF (f : List Fd) (n : ByteArray) : Bool := (getF f n).isSome

theorem atF_le (f : List Fd) (n : ByteArray) : atF f n ≤ f.length := List.countP_le_length

theorem atF_cons_lt {p : Fd} {l : List Fd} {n : ByteArray} (h : p.1.data.toList < n.data.toList) : atF (p :: l) n = atF l n + 1 := by
  unfold atF
  rw [List.countP_cons_of_pos (by simpa using h)]

theorem atF_zero {p : Fd} {l : List Fd} {n : ByteArray} (hr : RiseP (p :: l)) (h : ¬ p.1.data.toList < n.data.toList) : atF (p :: l) n = 0 := by
  unfold atF
  rw [List.countP_eq_zero]
  intro q hq
  rcases List.mem_cons.1 hq with rfl | hq
  · simpa using h
  · have h1 := (List.pairwise_cons.1 hr).1 q hq
    simp only [decide_eq_true_eq]
    exact fun h2 => h (List.lt_trans h1 h2)

/-- what stands ahead of that place is what is less -/
theorem atF_lt : ∀ {f : List Fd} {n : ByteArray}, RiseP f → ∀ i (h : i < f.length), (f[i]).1.data.toList < n.data.toList ↔ i < atF f n
  | [], _, _, i, h => by simp at h
  | p :: l, n, hr, i, hi => by
    by_cases h : p.1.data.toList < n.data.toList
    · rw [atF_cons_lt h]
      match i, hi with
      | 0, _ => simpa using h
      | i + 1, hi =>
        have := atF_lt (n := n) (List.pairwise_cons.1 hr).2 i (by simpa using hi)
        simp only [List.getElem_cons_succ]
        rw [this]
        omega
    · rw [atF_zero hr h]
      refine ⟨fun h1 => absurd ?_ h, fun h1 => by omega⟩
      match i, hi with
      | 0, _ => simpa using h1
      | i + 1, hi => exact List.lt_trans ((List.pairwise_cons.1 hr).1 _ (List.getElem_mem (by simpa using hi))) h1

theorem nm_tri (a b : ByteArray) : a.data.toList < b.data.toList ∨ a = b ∨ b.data.toList < a.data.toList := by
  by_cases h1 : a.data.toList < b.data.toList
  · exact .inl h1
  · by_cases h2 : b.data.toList < a.data.toList
    · exact .inr (.inr h2)
    · exact .inr (.inl (by
        have := List.le_antisymm (List.not_lt.1 h2) (List.not_lt.1 h1)
        apply ByteArray.ext
        exact Array.toList_inj.1 this))

/-- the field of that name stands at that place, if there is one -/
theorem isF_at : ∀ {f : List Fd} {n : ByteArray}, RiseP f → getF f n = match f[atF f n]? with | some p => if p.1 = n then some p.2 else none | none => none
  | [], _, _ => rfl
  | p :: l, n, hr => by
    have hr2 := (List.pairwise_cons.1 hr)
    by_cases h : p.1.data.toList < n.data.toList
    · rw [atF_cons_lt h, List.getElem?_cons_succ, ← isF_at hr2.2, getF, if_neg]
      exact fun e => by rw [e] at h; exact List.lt_irrefl _ h
    · rw [atF_zero hr h, List.getElem?_cons_zero, getF]
      by_cases e : p.1 = n
      · simp [e]
      · rw [if_neg e]
        have hlt : n.data.toList < p.1.data.toList := by
          rcases nm_tri p.1 n with h1 | h1 | h1
          · exact absurd h1 h
          · exact absurd h1 e
          · exact h1
        simp only [if_neg e]
        exact getF_no fun q hq e2 => by
          have := hr2.1 q hq
          rw [e2] at this
          exact List.lt_irrefl _ (List.lt_trans this hlt)

theorem isF_true {f : List Fd} {n : ByteArray} (hr : RiseP f) (h : isF f n = true) : ∃ hi : atF f n < f.length, (f[atF f n]).1 = n ∧ valF f n = (f[atF f n]).2 := by
  unfold isF at h
  have h1 := isF_at (n := n) hr
  by_cases hi : atF f n < f.length
  · rw [List.getElem?_eq_getElem hi] at h1
    simp only at h1
    by_cases e : (f[atF f n]).1 = n
    · rw [if_pos e] at h1
      exact ⟨hi, e, by unfold valF; rw [h1]; rfl⟩
    · rw [if_neg e] at h1
      rw [h1] at h
      cases h
  · rw [List.getElem?_eq_none (by omega)] at h1
    rw [h1] at h
    cases h

theorem isF_false {f : List Fd} {n : ByteArray} (h : isF f n = false) : valF f n = V.null := by
  unfold isF at h
  unfold valF
  cases hg : getF f n with
  | none => rfl
  | some x => rw [hg] at h; cases h

/-- a list of fields with another value of a name, or none -/
def putV (f : List Fd) (n : ByteArray) (o : Option V) : List Fd := f.take (atF f n) ++ ((match o with | some x => [(n, x)] | none => []) ++ f.drop (atF f n + if isF f n then 1 else 0))

def intV (n : Int) : V := .mk 2 false n ⟨#[]⟩ [] []

def addV (x : V) (n : Int) : Except Int V :=
  if x.kind ≠ 2 ∨ (0 < n ∧ 9223372036854775807 - n < x.num) ∨ (n < 0 ∧ x.num < -9223372036854775808 - n) then .error 1 else .ok (intV (x.num + n))

/-- what a field at the end of the path is behind an operation -/
def lastV (o : PO) (x : V) (there : Bool) : Except Int (Option V) :=
  if o.kind = 1 then .ok (some o.val) else if there = false then .error 5 else if o.kind = 2 then .ok none else (addV x o.val.num).map some

def V.setF (v : V) (f : List Fd) : V := .mk v.kind v.yes v.num v.text v.list f

def alongV (o : PO) : List ByteArray → V → Except Int V
  | [], _ => .error 5
  | [n], v => if v.kind ≠ 5 then .error 5 else (lastV o (valF v.fields n) (isF v.fields n)).map fun y => v.setF (putV v.fields n y)
  | n :: m :: r, v => if v.kind ≠ 5 then .error 5 else (alongV o (m :: r) (valF v.fields n)).map fun y => v.setF (putV v.fields n (some y))

theorem valF_okv {f : List Fd} {n : ByteArray} {k : Nat} (h : ∀ p ∈ f, p.2.okv k) : (valF f n).okv k := by
  unfold valF
  cases hg : getF f n with
  | none => exact okv_iff.2 ⟨⟨Nat.zero_le _, Nat.zero_le _, List.Pairwise.nil, by unfold Is64; show _ ∧ _; decide⟩, (fun _ h => by cases h), (fun _ h => by cases h)⟩
  | some x =>
    have : ∃ p ∈ f, p.2 = x := by
      clear h
      induction f with
      | nil => cases hg
      | cons p l ih =>
        rw [getF] at hg
        by_cases e : p.1 = n
        · rw [if_pos e] at hg
          exact ⟨p, by simp, Option.some.inj hg⟩
        · rw [if_neg e] at hg
          obtain ⟨q, hq, e2⟩ := ih hg
          exact ⟨q, by simp [hq], e2⟩
    obtain ⟨p, hp, rfl⟩ := this
    exact h p hp

theorem putV_mem {f : List Fd} {n : ByteArray} {o : Option V} {p : Fd} (h : p ∈ putV f n o) : p ∈ f ∨ ∃ x, o = some x ∧ p = (n, x) := by
  unfold putV at h
  rcases List.mem_append.1 h with h | h
  · exact .inl (List.mem_of_mem_take h)
  · rcases List.mem_append.1 h with h | h
    · cases o with
      | none => cases h
      | some x => exact .inr ⟨x, rfl, by simpa using h⟩
    · exact .inl (List.mem_of_mem_drop h)

theorem putV_length (f : List Fd) (n : ByteArray) (o : Option V) : (putV f n o).length ≤ f.length + 1 := by
  have := atF_le f n
  unfold putV
  cases o <;> simp only [List.length_append, List.length_take, List.length_drop, List.length_nil, List.length_cons] <;> omega

theorem putV_rise {f : List Fd} {n : ByteArray} {o : Option V} (h : RiseP f) : RiseP (putV f n o) := by
  have hat := isF_at (n := n) h
  have hbelow : ∀ p ∈ f.take (atF f n), p.1.data.toList < n.data.toList := fun p hp => by
    obtain ⟨i, hi, rfl⟩ := List.getElem_of_mem hp
    rw [List.length_take] at hi
    rw [List.getElem_take]
    exact (atF_lt h i (by omega)).2 (by omega)
  have habove : ∀ p ∈ f.drop (atF f n + if isF f n then 1 else 0), n.data.toList < p.1.data.toList := fun p hp => by
    obtain ⟨i, hi, rfl⟩ := List.getElem_of_mem hp
    rw [List.length_drop] at hi
    rw [List.getElem_drop]
    have h1 := (atF_lt (n := n) h (atF f n + (if isF f n then 1 else 0) + i) (by omega))
    rcases nm_tri (f[atF f n + (if isF f n then 1 else 0) + i]'(by omega)).1 n with h2 | h2 | h2
    · have := h1.1 h2; omega
    · exfalso
      have hlt : atF f n < f.length := by omega
      rw [List.getElem?_eq_getElem hlt] at hat
      by_cases e : (f[atF f n]).1 = n
      · have hs : isF f n = true := by unfold isF; rw [hat]; simp [e]
        have h3 := List.pairwise_iff_getElem.1 h (atF f n) (atF f n + (if isF f n then 1 else 0) + i) hlt (by omega) (by rw [hs]; simp; omega)
        rw [h2, e] at h3
        exact List.lt_irrefl _ h3
      · by_cases hi0 : atF f n = atF f n + (if isF f n then 1 else 0) + i
        · refine e ?_
          have : (f[atF f n]).1 = (f[atF f n + (if isF f n then 1 else 0) + i]'(by omega)).1 := by congr 2
          rw [this, h2]
        · have h3 := List.pairwise_iff_getElem.1 h (atF f n) (atF f n + (if isF f n then 1 else 0) + i) hlt (by omega) (by omega)
          rw [h2] at h3
          have := (atF_lt (n := n) h (atF f n) hlt).1 h3
          omega
    · exact h2
  unfold putV
  refine List.pairwise_append.2 ⟨h.sublist (List.take_sublist _ _), List.pairwise_append.2 ⟨?_, h.sublist (List.drop_sublist _ _), ?_⟩, ?_⟩
  · cases o with
    | none => exact List.Pairwise.nil
    | some x => exact List.pairwise_singleton _ _
  · intro p hp q hq
    cases o with
    | none => cases hp
    | some x =>
      obtain rfl : p = (n, x) := by simpa using hp
      exact habove q hq
  · intro p hp q hq
    have h1 := hbelow p hp
    rcases List.mem_append.1 hq with hq | hq
    · cases o with
      | none => cases hq
      | some x =>
        obtain rfl : q = (n, x) := by simpa using hq
        exact h1
    · exact List.lt_trans h1 (habove q hq)

theorem setF_okv {v : V} {n : ByteArray} {o : Option V} {k : Nat} (h : v.okv k) (ho : ∀ x, o = some x → x.okv (k + 1)) : (v.setF (putV v.fields n o)).okv (k + 1) := by
  obtain ⟨⟨h1, h2, h3, h6⟩, h4, h5⟩ := okv_iff.1 h
  refine okv_iff.2 ⟨⟨show v.list.length ≤ _ by omega, ?_, putV_rise h3, h6⟩, fun x hx => (h4 x hx).mono (by omega), fun p hp => ?_⟩
  · have := putV_length v.fields n o
    show (putV v.fields n o).length ≤ k + 1
    omega
  · rcases putV_mem hp with hp | ⟨x, rfl, rfl⟩
    · exact (h5 p hp).mono (by omega)
    · exact ho x rfl

theorem intV_okv {n : Int} (h : Is64 n) (k : Nat) : (intV n).okv k := okv_iff.2 ⟨⟨Nat.zero_le _, Nat.zero_le _, List.Pairwise.nil, h⟩, (fun _ h => by cases h), (fun _ h => by cases h)⟩

theorem addV_num {x : V} {n : Int} (hx : Is64 x.num) (hn : Is64 n) (h : ¬ (x.kind ≠ 2 ∨ (0 < n ∧ 9223372036854775807 - n < x.num) ∨ (n < 0 ∧ x.num < -9223372036854775808 - n))) : Is64 (x.num + n) := by
  unfold Is64 at *
  omega

theorem lastV_okv {o : PO} {x : V} {t : Bool} {k : Nat} (ho : o.val.okv k) (hx : Is64 x.num) {y : Option V} (h : lastV o x t = .ok y) : ∀ z, y = some z → z.okv k := by
  unfold lastV at h
  split at h
  · injection h with h
    intro z hz
    rw [← h] at hz
    injection hz with hz
    rw [← hz]
    exact ho
  · split at h
    · cases h
    · split at h
      · injection h with h
        intro z hz
        rw [← h] at hz
        cases hz
      · unfold addV at h
        split at h
        · cases h
        · rename_i hno
          injection h with h
          intro z hz
          rw [← h] at hz
          injection hz with hz
          rw [← hz]
          exact intV_okv (addV_num hx (okv_iff.1 ho).1.2.2.2 hno) _

theorem alongV_okv {o : PO} {k : Nat} (ho : o.val.okv k) : ∀ (path : List ByteArray) (v y : V), v.okv k → alongV o path v = .ok y → y.okv (k + 1)
  | [], _, _, _, h => by cases h
  | [n], v, y, hv, h => by
    rw [alongV] at h
    split at h
    · cases h
    · cases hl : lastV o (valF v.fields n) (isF v.fields n) with
      | error e => rw [hl] at h; cases h
      | ok z =>
        rw [hl] at h
        injection h with h
        rw [← h]
        exact setF_okv hv fun x hx => (lastV_okv ho (okv_iff.1 (valF_okv (okv_iff.1 hv).2.2)).1.2.2.2 hl x hx).mono (by omega)
  | n :: m :: r, v, y, hv, h => by
    rw [alongV] at h
    split at h
    · cases h
    · cases hl : alongV o (m :: r) (valF v.fields n) with
      | error e => rw [hl] at h; cases h
      | ok z =>
        rw [hl] at h
        injection h with h
        rw [← h]
        refine setF_okv hv fun x hx => ?_
        injection hx with hx
        rw [← hx]
        exact alongV_okv ho (m :: r) _ _ (valF_okv (okv_iff.1 hv).2.2) hl

end Go.Proofs.Ytljhcnlifdmacaa
end

section
namespace Go.Proofs.Ytljhcnlifdmacaa
open Go.RowKit

/-- what a call gives that makes a value or tells an error -/
def ResP (r : Except Int V) (S : Nat → Prop) (w : World) (e : Ending) (w' : World) : Prop :=
  Below w.heap.size w w' ∧ match r with
  | .ok v => ∃ a c a' c', e = .returned (.tuple #[.agg #[.int .i64 v.kind, .bool v.yes, .int .i64 v.num, .string v.text, .slice a v.list.length c, .slice a' v.fields.length c'], .int .i64 0]) ∧ v.At w' (fun q => S q ∨ w.heap.size ≤ q) (.slice a v.list.length c) (.slice a' v.fields.length c')
  | .error c => c ≠ 0 ∧ e = .returned (.tuple #[.agg #[.int .i64 0, .bool false, .int .i64 0, .string ⟨#[]⟩, .slice none 0 0, .slice none 0 0], .int .i64 c])

theorem intV_is (n : Int) (w : World) (S : Nat → Prop) : (intV n).At w S (.slice none 0 0) (.slice none 0 0) := V.at_iff.2 ⟨⟨none, 0, rfl, Nat.le_refl _, by unfold maxLen; omega, .inl rfl⟩, ⟨none, 0, rfl, Nat.le_refl _, by unfold maxLen; omega, .inl rfl⟩⟩

set_option maxHeartbeats 4000000 in
set_option maxRecDepth 100000 in
theorem add_any (x : V) (la : Option Addr) (ll lc : Nat) (fa : Option Addr) (fl fc : Nat) (n : Int) (w : World) (hx : Is64 x.num) (hn : Is64 n) (S : Nat → Prop) :
    Calls Try.prog 89 #[.agg #[.int .i64 x.kind, .bool x.yes, .int .i64 x.num, .string x.text, .slice la ll lc, .slice fa fl fc], .int .i64 n] w (ResP (addV x n) S w) := by
  have hb0 : Below w.heap.size w ((w.alloc (.cells #[.int .i64 x.kind, .bool x.yes, .int .i64 x.num, .string x.text, .slice la ll lc, .slice fa fl fc] 26)).alloc (.cells #[.int .i64 0, .bool false, .int .i64 0, .string ⟨#[]⟩, .slice none 0 0, .slice none 0 0] 26)) := ((Below.refl _ w).alloc (Nat.le_refl _) _).alloc (by simp) _
  unfold Is64 at hx hn
  by_cases hk : x.kind = 2
  · have g0 : (x.kind != 2) = false := by simp [hk]
    by_cases h1 : 0 < n
    · have h3 : ¬ n < 0 := by omega
      have hw0 : IntKind.i64.wrap (9223372036854775807 - n) = 9223372036854775807 - n := by rw [IntKind.wrap_i64]; omega
      by_cases h2 : 9223372036854775807 - n < x.num
      · have hr : addV x n = .error 1 := by unfold addV; rw [if_pos (.inr (.inl ⟨h1, h2⟩))]
        rw [hr]
        clear hr hk
        have HB := Lib.hid hb0
        clear hb0 hx hn
        go_enter Try.func89, Try.ntmps89
        go_wp2
        refine bodyPost_ret (v := .tuple #[.agg #[.int .i64 0, .bool false, .int .i64 0, .string ⟨#[]⟩, .slice none 0 0, .slice none 0 0], .int .i64 1]) (by simp [results, Try.results89, go_sem]) rfl ⟨HB.out, by decide, rfl⟩
      · have hr : addV x n = .ok (intV (x.num + n)) := by unfold addV; rw [if_neg (by omega)]
        rw [hr]
        clear hr hk
        have HB := Lib.hid hb0
        have hw : IntKind.i64.wrap (x.num + n) = x.num + n := by rw [IntKind.wrap_i64]; omega
        have HZ := Lib.hid (Box.new (w.alloc (.cells #[.int .i64 x.kind, .bool x.yes, .int .i64 x.num, .string x.text, .slice la ll lc, .slice fa fl fc] 26)) 26 #[.int .i64 0, .bool false, .int .i64 0, .string ⟨#[]⟩, .slice none 0 0, .slice none 0 0])
        have HS : Hid (((w.alloc (.cells #[.int .i64 x.kind, .bool x.yes, .int .i64 x.num, .string x.text, .slice la ll lc, .slice fa fl fc] 26))).heap.size = w.heap.size + 1) := Lib.hid (by simp)
        clear hb0
        go_enter Try.func89, Try.ntmps89
        go_wp2_with fail
        refine (ofInt_any _ _).mono ?_
        rintro e w3 ⟨rfl, hb3⟩
        have hZ3 : Box w3 (w.heap.size + 1) 26 #[.int .i64 0, .bool false, .int .i64 0, .string ⟨#[]⟩, .slice none 0 0, .slice none 0 0] := by
          have h1 := HZ.out
          rw [HS.out] at h1
          exact (hb3.block _ (by simp)).trans h1
        have hb4 : Below w.heap.size w w3 := HB.out.trans (hb3.mono HB.out.size)
        have hF := Box.sets [.int .i64 2, .bool false, .int .i64 (x.num + n), .string ⟨#[]⟩, .slice none 0 0, .slice none 0 0] 0 hZ3
        obtain ⟨⟨k0, k1, k2, k3, k4, k5⟩, _⟩ := Box.six (c0 := .int .i64 2) (c1 := .bool false) (c2 := .int .i64 (x.num + n)) (c3 := .string ⟨#[]⟩) (c4 := .slice none 0 0) (c5 := .slice none 0 0) hF
        simp only [sets, Nat.zero_add, Nat.reduceAdd] at k0 k1 k2 k3 k4 k5
        have hb5 := Below.sets [.int .i64 2, .bool false, .int .i64 (x.num + n), .string ⟨#[]⟩, .slice none 0 0, .slice none 0 0] 0 hb4 (g := w.heap.size + 1) (Nat.le_succ _)
        obtain ⟨⟨z0, z1, z2, z3, z4, z5⟩, s0, s1, s2, s3, s4, s5⟩ := hZ3.six
        have HO : Hid (ResP (.ok (intV (x.num + n))) S w (.returned (.tuple #[.agg #[.int .i64 2, .bool false, .int .i64 (x.num + n), .string ⟨#[]⟩, .slice none 0 0, .slice none 0 0], .int .i64 0])) (sets w3 (w.heap.size + 1) 0 [.int .i64 2, .bool false, .int .i64 (x.num + n), .string ⟨#[]⟩, .slice none 0 0, .slice none 0 0])) := Lib.hid ⟨hb5, none, 0, none, 0, rfl, intV_is _ _ _⟩
        clear hF hb3 hb4 hb5 hZ3 HZ HS hx hn
        go_wp2
        refine bodyPost_ret (v := .tuple #[.agg #[.int .i64 2, .bool false, .int .i64 (x.num + n), .string ⟨#[]⟩, .slice none 0 0, .slice none 0 0], .int .i64 0]) (by simp [results, Try.results89, go_sem, k0, k1, k2, k3, k4, k5]) rfl HO.out
    · by_cases h3 : n < 0
      · have hw0 : IntKind.i64.wrap (-9223372036854775808 - n) = -9223372036854775808 - n := by rw [IntKind.wrap_i64]; omega
        by_cases h2 : x.num < -9223372036854775808 - n
        · have hr : addV x n = .error 1 := by unfold addV; rw [if_pos (.inr (.inr ⟨h3, h2⟩))]
          rw [hr]
          clear hr hk
          have HB := Lib.hid hb0
          clear hb0 hx hn
          go_enter Try.func89, Try.ntmps89
          go_wp2
          refine bodyPost_ret (v := .tuple #[.agg #[.int .i64 0, .bool false, .int .i64 0, .string ⟨#[]⟩, .slice none 0 0, .slice none 0 0], .int .i64 1]) (by simp [results, Try.results89, go_sem]) rfl ⟨HB.out, by decide, rfl⟩
        · have hr : addV x n = .ok (intV (x.num + n)) := by unfold addV; rw [if_neg (by omega)]
          rw [hr]
          clear hr hk
          have HB := Lib.hid hb0
          have hw : IntKind.i64.wrap (x.num + n) = x.num + n := by rw [IntKind.wrap_i64]; omega
          have HZ := Lib.hid (Box.new (w.alloc (.cells #[.int .i64 x.kind, .bool x.yes, .int .i64 x.num, .string x.text, .slice la ll lc, .slice fa fl fc] 26)) 26 #[.int .i64 0, .bool false, .int .i64 0, .string ⟨#[]⟩, .slice none 0 0, .slice none 0 0])
          have HS : Hid (((w.alloc (.cells #[.int .i64 x.kind, .bool x.yes, .int .i64 x.num, .string x.text, .slice la ll lc, .slice fa fl fc] 26))).heap.size = w.heap.size + 1) := Lib.hid (by simp)
          clear hb0
          go_enter Try.func89, Try.ntmps89
          go_wp2_with fail
          refine (ofInt_any _ _).mono ?_
          rintro e w3 ⟨rfl, hb3⟩
          have hZ3 : Box w3 (w.heap.size + 1) 26 #[.int .i64 0, .bool false, .int .i64 0, .string ⟨#[]⟩, .slice none 0 0, .slice none 0 0] := by
            have h1 := HZ.out
            rw [HS.out] at h1
            exact (hb3.block _ (by simp)).trans h1
          have hb4 : Below w.heap.size w w3 := HB.out.trans (hb3.mono HB.out.size)
          have hF := Box.sets [.int .i64 2, .bool false, .int .i64 (x.num + n), .string ⟨#[]⟩, .slice none 0 0, .slice none 0 0] 0 hZ3
          obtain ⟨⟨k0, k1, k2, k3, k4, k5⟩, _⟩ := Box.six (c0 := .int .i64 2) (c1 := .bool false) (c2 := .int .i64 (x.num + n)) (c3 := .string ⟨#[]⟩) (c4 := .slice none 0 0) (c5 := .slice none 0 0) hF
          simp only [sets, Nat.zero_add, Nat.reduceAdd] at k0 k1 k2 k3 k4 k5
          have hb5 := Below.sets [.int .i64 2, .bool false, .int .i64 (x.num + n), .string ⟨#[]⟩, .slice none 0 0, .slice none 0 0] 0 hb4 (g := w.heap.size + 1) (Nat.le_succ _)
          obtain ⟨⟨z0, z1, z2, z3, z4, z5⟩, s0, s1, s2, s3, s4, s5⟩ := hZ3.six
          have HO : Hid (ResP (.ok (intV (x.num + n))) S w (.returned (.tuple #[.agg #[.int .i64 2, .bool false, .int .i64 (x.num + n), .string ⟨#[]⟩, .slice none 0 0, .slice none 0 0], .int .i64 0])) (sets w3 (w.heap.size + 1) 0 [.int .i64 2, .bool false, .int .i64 (x.num + n), .string ⟨#[]⟩, .slice none 0 0, .slice none 0 0])) := Lib.hid ⟨hb5, none, 0, none, 0, rfl, intV_is _ _ _⟩
          clear hF hb3 hb4 hb5 hZ3 HZ HS hx hn
          go_wp2
          refine bodyPost_ret (v := .tuple #[.agg #[.int .i64 2, .bool false, .int .i64 (x.num + n), .string ⟨#[]⟩, .slice none 0 0, .slice none 0 0], .int .i64 0]) (by simp [results, Try.results89, go_sem, k0, k1, k2, k3, k4, k5]) rfl HO.out
      · have hr : addV x n = .ok (intV (x.num + n)) := by unfold addV; rw [if_neg (by omega)]
        rw [hr]
        clear hr hk
        have HB := Lib.hid hb0
        have hw : IntKind.i64.wrap (x.num + n) = x.num + n := by rw [IntKind.wrap_i64]; omega
        have HZ := Lib.hid (Box.new (w.alloc (.cells #[.int .i64 x.kind, .bool x.yes, .int .i64 x.num, .string x.text, .slice la ll lc, .slice fa fl fc] 26)) 26 #[.int .i64 0, .bool false, .int .i64 0, .string ⟨#[]⟩, .slice none 0 0, .slice none 0 0])
        have HS : Hid (((w.alloc (.cells #[.int .i64 x.kind, .bool x.yes, .int .i64 x.num, .string x.text, .slice la ll lc, .slice fa fl fc] 26))).heap.size = w.heap.size + 1) := Lib.hid (by simp)
        clear hb0
        go_enter Try.func89, Try.ntmps89
        go_wp2_with fail
        refine (ofInt_any _ _).mono ?_
        rintro e w3 ⟨rfl, hb3⟩
        have hZ3 : Box w3 (w.heap.size + 1) 26 #[.int .i64 0, .bool false, .int .i64 0, .string ⟨#[]⟩, .slice none 0 0, .slice none 0 0] := by
          have h1 := HZ.out
          rw [HS.out] at h1
          exact (hb3.block _ (by simp)).trans h1
        have hb4 : Below w.heap.size w w3 := HB.out.trans (hb3.mono HB.out.size)
        have hF := Box.sets [.int .i64 2, .bool false, .int .i64 (x.num + n), .string ⟨#[]⟩, .slice none 0 0, .slice none 0 0] 0 hZ3
        obtain ⟨⟨k0, k1, k2, k3, k4, k5⟩, _⟩ := Box.six (c0 := .int .i64 2) (c1 := .bool false) (c2 := .int .i64 (x.num + n)) (c3 := .string ⟨#[]⟩) (c4 := .slice none 0 0) (c5 := .slice none 0 0) hF
        simp only [sets, Nat.zero_add, Nat.reduceAdd] at k0 k1 k2 k3 k4 k5
        have hb5 := Below.sets [.int .i64 2, .bool false, .int .i64 (x.num + n), .string ⟨#[]⟩, .slice none 0 0, .slice none 0 0] 0 hb4 (g := w.heap.size + 1) (Nat.le_succ _)
        obtain ⟨⟨z0, z1, z2, z3, z4, z5⟩, s0, s1, s2, s3, s4, s5⟩ := hZ3.six
        have HO : Hid (ResP (.ok (intV (x.num + n))) S w (.returned (.tuple #[.agg #[.int .i64 2, .bool false, .int .i64 (x.num + n), .string ⟨#[]⟩, .slice none 0 0, .slice none 0 0], .int .i64 0])) (sets w3 (w.heap.size + 1) 0 [.int .i64 2, .bool false, .int .i64 (x.num + n), .string ⟨#[]⟩, .slice none 0 0, .slice none 0 0])) := Lib.hid ⟨hb5, none, 0, none, 0, rfl, intV_is _ _ _⟩
        clear hF hb3 hb4 hb5 hZ3 HZ HS hx hn
        go_wp2
        refine bodyPost_ret (v := .tuple #[.agg #[.int .i64 2, .bool false, .int .i64 (x.num + n), .string ⟨#[]⟩, .slice none 0 0, .slice none 0 0], .int .i64 0]) (by simp [results, Try.results89, go_sem, k0, k1, k2, k3, k4, k5]) rfl HO.out
  · have g0 : (x.kind != 2) = true := by simp [hk]
    have hr : addV x n = .error 1 := by unfold addV; rw [if_pos (.inl hk)]
    rw [hr]
    clear hr hk
    have HB := Lib.hid hb0
    clear hb0 hx hn
    go_enter Try.func89, Try.ntmps89
    go_wp2
    refine bodyPost_ret (v := .tuple #[.agg #[.int .i64 0, .bool false, .int .i64 0, .string ⟨#[]⟩, .slice none 0 0, .slice none 0 0], .int .i64 1]) (by simp [results, Try.results89, go_sem]) rfl ⟨HB.out, by decide, rfl⟩

end Go.Proofs.Ytljhcnlifdmacaa
end

section
namespace Go.Proofs.Ytljhcnlifdmacaa
open Go.RowKit

theorem cmpL_below {a b : L8} : cmpL a b < 0 ↔ a < b := by
  rw [← cmpL_neg]
  unfold cmpL
  split
  · omega
  · split <;> omega

set_option maxHeartbeats 4000000 in
set_option maxRecDepth 100000 in
theorem place_cl (nm : ByteArray) (k : Int) (y : Bool) (m : Int) (t : ByteArray) (la : Option Addr) (ll lc : Nat) (fa : Option Addr) (fl fc : Nat) (n : ByteArray) (w : World) :
    Calls Try.prog 88 #[.agg #[.string nm, .int .i64 k, .bool y, .int .i64 m, .string t, .slice la ll lc, .slice fa fl fc], .string n] w fun e w' => e = .returned (.int .i64 (cmpL nm.data.toList n.data.toList)) ∧ Below w.heap.size w w' := by
  have HB := Lib.hid ((Below.refl _ w).alloc (Nat.le_refl _) (.cells #[.string nm, .int .i64 k, .bool y, .int .i64 m, .string t, .slice la ll lc, .slice fa fl fc] 30))
  go_enter Try.func88, Try.ntmps88
  go_wp2_with fail
  refine (Try.strings_Compare _ _ _).mono ?_
  rintro e w1 ⟨rfl, rfl⟩
  go_wp2
  go_ret
  exact ⟨by rw [cmpB_eq]; rfl, HB.out⟩

set_option maxHeartbeats 4000000 in
set_option maxRecDepth 100000 in
theorem bsf_some (b off c : Nat) (fs : List Fd) (n : ByteArray) (w : World) (hb : b < w.heap.size) (hC : FCells w All b off fs) (hl : fs.length ≤ 100000) (hr : RiseP fs) :
    Calls Try.prog 87 #[.slice (some ⟨b, off, none⟩) fs.length c, .string n, .func (.func 88) #[] #[]] w fun e w' => e = .returned (.tuple #[.int .i64 (atF fs n : Nat), .bool (isF fs n)]) ∧ Below w.heap.size w w' := by
  have HC : Hid (∀ W i (hi : i < fs.length), Below w.heap.size w W → ∃ la lc fa fc, InAt W b (off + i * 7) [.string (fs[i]).1, .int .i64 (fs[i]).2.kind, .bool (fs[i]).2.yes, .int .i64 (fs[i]).2.num, .string (fs[i]).2.text, .slice la (fs[i]).2.list.length lc, .slice fa (fs[i]).2.fields.length fc]) :=
    Lib.hid fun W i hi hB => by
      obtain ⟨lv, fv, hin, hel⟩ := (FCells.keepAll hC hB hb).get hi
      obtain ⟨⟨la, lc, rfl⟩, ⟨fa, fc, rfl⟩, _, _⟩ := (show (fs[i]).2.Is W lv fv from hel).len
      exact ⟨la, lc, fa, fc, hin⟩
  have HR := Lib.hid hr
  have HAT : Hid (atF fs n ≤ fs.length ∧ ∀ i (h : i < fs.length), (cmpL (fs[i]).1.data.toList n.data.toList < 0 ↔ i < atF fs n)) := Lib.hid ⟨atF_le fs n, fun i hi => cmpL_below.trans (atF_lt hr i hi)⟩
  have HIS : Hid (isF fs n = if h : atF fs n < fs.length then decide (cmpL (fs[atF fs n]).1.data.toList n.data.toList = 0) else false) := Lib.hid (by
    unfold isF
    rw [isF_at hr]
    by_cases h : atF fs n < fs.length
    · rw [List.getElem?_eq_getElem h, dif_pos h]
      by_cases e : (fs[atF fs n]).1 = n
      · simp only [e, if_pos, Option.isSome_some]
        rw [cmpB_zero.2 rfl]; rfl
      · simp only [if_neg e, Option.isSome_none]
        exact (decide_eq_false fun h2 => e (cmpB_zero.1 h2)).symm
    · rw [List.getElem?_eq_none (by omega), dif_neg h]; rfl)
  clear hC hr hb
  go_enter Try.func87, Try.ntmps87
  go_wp2
  go_loopw [9, 10] (fun i j wr => ∃ lo hi : Nat, i = .int .i64 lo ∧ j = .int .i64 hi ∧ hi ≤ fs.length ∧ Hid (lo ≤ atF fs n ∧ atF fs n ≤ hi ∧ Below w.heap.size w wr)) (fun i j _ => (intOf j).toNat - (intOf i).toNat)
  case atStart => exact ⟨0, fs.length, rfl, rfl, Nat.le_refl _, Lib.hid ⟨Nat.zero_le _, HAT.out.1, Below.refl _ _⟩⟩
  case round =>
    obtain ⟨lo, hi, rfl, rfl, hin, I⟩ := hrel
    by_cases hlt : lo < hi
    · obtain ⟨m, hm⟩ : ∃ m, m = (lo + hi) / 2 := ⟨_, rfl⟩
      have hml : m < fs.length := by omega
      have hdiv : ((lo : Int) + (hi : Int)) / 2 = (m : Int) := by omega
      have hmn : (m : Int) < (fs.length : Int) := by omega
      obtain ⟨la, lc, fa, fc, hcs⟩ := HC.out wr m hml I.out.2.2
      have hcmp := HAT.out.2 m hml
      obtain ⟨p, hp⟩ : ∃ p, p = fs[m] := ⟨_, rfl⟩
      rw [← hp] at hcs hcmp
      obtain ⟨p0, p1, p2, p3, p4, p5, p6⟩ := hcs.seven
      have hcl := place_cl p.1 p.2.kind p.2.yes p.2.num p.2.text la p.2.list.length lc fa p.2.fields.length fc n wr
      obtain ⟨q, hq⟩ : ∃ q, q = cmpL p.1.data.toList n.data.toList := ⟨_, rfl⟩
      rw [← hq] at hcl hcmp
      have HCL := Lib.hid hcl
      have HLT := Lib.hid (And.intro hlt hm)
      by_cases hneg : q < 0
      · have I2 : Hid (∀ W, Below wr.heap.size wr W → m + 1 ≤ atF fs n ∧ atF fs n ≤ hi ∧ Below w.heap.size w W) := Lib.hid fun W hW => ⟨hcmp.1 hneg, I.out.2.1, I.out.2.2.trans (hW.mono I.out.2.2.size)⟩
        clear hcl hcmp hcs hp hq hm I
        go_wp2_with (go_at_call 88; refine HCL.out.mono ?_; rintro e w' ⟨rfl, hb1⟩; have HB1 := Lib.hid hb1; clear hb1)
        go_roundw
        case rel => exact ⟨m + 1, hi, by go_num, rfl, hin, Lib.hid (I2.out _ HB1.out)⟩
        case measure => have := HLT.out; simp [intOf]; omega
      · have I2 : Hid (∀ W, Below wr.heap.size wr W → lo ≤ atF fs n ∧ atF fs n ≤ m ∧ Below w.heap.size w W) := Lib.hid fun W hW => ⟨I.out.1, by have := fun h => hneg (hcmp.2 h); omega, I.out.2.2.trans (hW.mono I.out.2.2.size)⟩
        clear hcl hcmp hcs hp hq hm I
        go_wp2_with (go_at_call 88; refine HCL.out.mono ?_; rintro e w' ⟨rfl, hb1⟩; have HB1 := Lib.hid hb1; clear hb1)
        go_roundw
        case rel => exact ⟨lo, m, rfl, rfl, by omega, Lib.hid (I2.out _ HB1.out)⟩
        case measure => have := HLT.out; simp [intOf]; omega
    · obtain ⟨e1, e2⟩ : lo = atF fs n ∧ hi = lo := by have := I.out; omega
      have HF := Lib.hid I.out.2.2
      have his := HIS.out
      rw [← e1] at his ⊢
      clear I
      by_cases hle : lo < fs.length
      · rw [dif_pos (by omega)] at his
        obtain ⟨la, lc, fa, fc, hcs⟩ := HC.out wr lo hle HF.out
        obtain ⟨p, hp⟩ : ∃ p, p = fs[lo] := ⟨_, rfl⟩
        have hp2 : fs[atF fs n]'(by omega) = p := by rw [hp]; congr 1; exact e1.symm
        rw [← hp] at hcs
        rw [show (fs[lo]'hle) = p from hp.symm] at his
        obtain ⟨p0, p1, p2, p3, p4, p5, p6⟩ := hcs.seven
        have hcl := place_cl p.1 p.2.kind p.2.yes p.2.num p.2.text la p.2.list.length lc fa p.2.fields.length fc n wr
        obtain ⟨q, hq⟩ : ∃ q, q = cmpL p.1.data.toList n.data.toList := ⟨_, rfl⟩
        rw [← hq] at hcl his
        have HCL := Lib.hid hcl
        have hll : (lo : Int) < (fs.length : Int) := by omega
        have HIF := Lib.hid his
        subst e2
        have HE := Lib.hid e1
        clear hcl hcs hp hp2 hq e1 his HIS
        go_wp2_with (go_at_call 88; refine HCL.out.mono ?_; rintro e w' ⟨rfl, hb1⟩; have HB1 := Lib.hid hb1; clear hb1)
        refine bodyPost_ret (v := .tuple #[.int .i64 hi, .bool (q == 0)]) (by simp [results, Try.results87, go_sem]) rfl ⟨by rw [HIF.out, ← HE.out, show (q == 0) = decide (q = 0) from rfl], HF.out.trans (HB1.out.mono HF.out.size)⟩
      · rw [dif_neg (by omega)] at his
        have hll : ¬ (lo : Int) < (fs.length : Int) := by omega
        have HIF := Lib.hid his
        subst e2
        have HE := Lib.hid e1
        clear e1 his HIS
        go_wp2
        refine bodyPost_ret (v := .tuple #[.int .i64 hi, .bool false]) (by simp [results, Try.results87, go_sem]) rfl ⟨by rw [HIF.out, ← HE.out], HF.out⟩

theorem bsf_none (a : Option Addr) (c : Nat) (n : ByteArray) (cl : Value) (w : World) :
    Calls Try.prog 87 #[.slice a 0 c, .string n, cl] w fun e w' => e = .returned (.tuple #[.int .i64 0, .bool false]) ∧ w = w' := by
  go_enter Try.func87, Try.ntmps87
  go_wp2
  refine wp_loop_rounds 1 ?_
  rw [rounds_succ]
  go_wp2
  refine bodyPost_ret (v := .tuple #[.int .i64 0, .bool false]) (by simp [results, Try.results87, go_sem]) rfl ⟨rfl, rfl⟩

set_option maxHeartbeats 4000000 in
set_option maxRecDepth 100000 in
theorem place_any {w : World} {fs : List Fd} {a : Option Addr} {c : Nat} (hf : FAt w All fs (.slice a fs.length c)) (hl : fs.length ≤ 100000) (hr : RiseP fs) (n : ByteArray) :
    Calls Try.prog 63 #[.slice a fs.length c, .string n] w fun e w' => e = .returned (.tuple #[.int .i64 (atF fs n : Nat), .bool (isF fs n)]) ∧ Below w.heap.size w w' := by
  have hb : Calls Try.prog 87 #[.slice a fs.length c, .string n, .func (.func 88) #[] #[]] w fun e w' => e = .returned (.tuple #[.int .i64 (atF fs n : Nat), .bool (isF fs n)]) ∧ Below w.heap.size w w' := by
    by_cases h0 : fs = []
    · subst h0
      refine (bsf_none a c n _ w).mono ?_
      rintro e w' ⟨rfl, rfl⟩
      exact ⟨rfl, Below.refl _ _⟩
    · obtain ⟨a', c', e, _, _, h⟩ := hf
      injection e with e1 _ e3
      subst e1
      subst e3
      rcases h with h | ⟨b, off, rfl, _, hlt, hC⟩
      · exact absurd h h0
      · exact bsf_some b off c fs n w hlt hC hl hr
  generalize atF fs n = i at hb
  generalize isF fs n = t at hb
  have HB := Lib.hid hb
  clear hb hf hr
  go_enter Try.func63, Try.ntmps63
  go_wp2_with fail
  refine HB.out.mono ?_
  rintro e w' ⟨rfl, hb⟩
  have HB1 := Lib.hid hb
  clear hb
  go_wp2
  refine bodyPost_ret (v := .tuple #[.int .i64 i, .bool t]) (by simp [results, Try.results63, go_sem]) rfl ⟨rfl, HB1.out⟩

end Go.Proofs.Ytljhcnlifdmacaa
end

section
namespace Go.Proofs.Ytljhcnlifdmacaa
open Go.RowKit

/-- a row to which may be appended: the values lie in blocks of P -/
def GRow (w : World) (B : Nat) (P : Nat → Prop) (vv : Value) (vs : List Fd) : Prop :=
  FRowP w B P vv vs ∨ (vs = [] ∧ ∃ b off, vv = .slice (some ⟨b, off, none⟩) 0 0)

theorem GRow.form {w : World} {B : Nat} {P : Nat → Prop} {vv : Value} {vs : List Fd} (h : GRow w B P vv vs) : ∃ a c, vv = .slice a vs.length c ∧ vs.length ≤ c ∧ c ≤ maxLen := by
  rcases h with h | ⟨rfl, b, off, rfl⟩
  · exact h.form
  · exact ⟨_, 0, rfl, Nat.le_refl _, by unfold maxLen; omega⟩

theorem GRow.atP {w : World} {B : Nat} {P S : Nat → Prop} {vv : Value} {vs : List Fd} (h : GRow w B P vv vs) (hP : ∀ q, P q → S q) (hB : ∀ q, B ≤ q → S q) : FAt w S vs vv := by
  rcases h with h | ⟨rfl, b, off, rfl⟩
  · obtain ⟨a, c, e, h1, h2⟩ := h.form
    refine ⟨a, c, e, h1, h2, ?_⟩
    obtain ⟨cs, hown, hold⟩ := h
    rcases hown.2 with ⟨_, h0⟩ | ⟨g, cap, cur, e1, e2, e3, e4, e5, e6, e7⟩
    · exact .inl (List.length_eq_zero_iff.1 h0)
    · refine .inr ⟨g, 0, ?_, hB g e2, (Array.getElem?_eq_some_iff.1 e3).1, FCells.mk fun i hi => ?_⟩
      · rw [e1] at e
        injection e with e _ _
        exact e.symm
      · obtain ⟨lv, fv, g1, g2⟩ := hold i hi
        refine ⟨lv, fv, fun j u hj => ?_, g2.wider fun q hq => hP q hq.1⟩
        have h3 := g1 j u hj
        rw [Nat.zero_add, Box.cell (show Box w g 30 cur from e3)]
        rw [← e7, List.getElem?_take] at h3
        split at h3
        · rw [← Array.getElem?_toList]; exact h3
        · cases h3
  · exact ⟨_, 0, rfl, Nat.le_refl _, by unfold maxLen; omega, .inl rfl⟩

theorem GRow.at_ {w : World} {B : Nat} {P : Nat → Prop} {vv : Value} {vs : List Fd} (h : GRow w B P vv vs) : FAt w All vs vv := by
  rcases h with h | ⟨rfl, b, off, rfl⟩
  · exact ((h.toRow (B' := 0) (Nat.zero_le _) (fun _ _ => Nat.zero_le _)).at_).move (fun _ _ _ => ⟨trivial, rfl⟩) (Nat.le_refl _)
  · exact ⟨_, 0, rfl, Nat.le_refl _, by unfold maxLen; omega, .inl rfl⟩

/-- what is there keeps it, if nothing that it reaches is turned -/
theorem GRow.below {w w' : World} {B : Nat} {P : Nat → Prop} {vv : Value} {vs : List Fd} (h : GRow w B P vv vs) (hb : Below w.heap.size w w') : GRow w' B P vv vs := by
  rcases h with h | h
  · exact .inl (h.keep (fun b hb' hlt => ⟨hb', hb.block b hlt⟩) (fun b ho => hb.block b (h.own b ho).2) hb.size)
  · exact .inr h

/-- the cells of fields that lie somewhere -/
def newsOf (w : World) (b off m : Nat) : List Value := (List.range (m * 7)).map fun j => (w.cell? ⟨b, off + j, none⟩).getD (.bool false)

def SrcAt (w : World) (P : Nat → Prop) (b off : Nat) (rows : List Fd) : Prop := ∀ i (h : i < rows.length), ∃ lv fv, InAt w b (off + i * 7) (fcells (rows[i]) lv fv) ∧ (rows[i]).2.At w P lv fv

theorem newsOf_get {w : World} {P : Nat → Prop} {b off : Nat} {rows : List Fd} (h : SrcAt w P b off rows) : (newsOf w b off rows.length).length = rows.length * 7 ∧ (∀ j u, (newsOf w b off rows.length)[j]? = some u → w.cell? ((⟨b, off, none⟩ : Addr).add j) = some u) ∧ (∀ u ∈ newsOf w b off rows.length, u.oneCell' = true) ∧
    ∀ i (h : i < rows.length), ∃ lv fv, (∀ j u, (fcells (rows[i]) lv fv)[j]? = some u → (newsOf w b off rows.length)[i * 7 + j]? = some u) ∧ (rows[i]).2.At w P lv fv := by
  have hl : (newsOf w b off rows.length).length = rows.length * 7 := by simp [newsOf]
  have hcell : ∀ j, j < rows.length * 7 → ∃ u, w.cell? ⟨b, off + j, none⟩ = some u ∧ u.oneCell' = true := fun j hj => by
    obtain ⟨lv, fv, h1, h2⟩ := h (j / 7) (by omega)
    have h7 : j % 7 < (fcells (rows[j / 7]) lv fv).length := by show j % 7 < 7; omega
    have h3 := h1 (j % 7) _ (List.getElem?_eq_getElem h7)
    rw [show off + j / 7 * 7 + j % 7 = off + j by omega] at h3
    refine ⟨_, h3, ?_⟩
    obtain ⟨⟨pa, pc, rfl⟩, ⟨qa, qc, rfl⟩, _, _⟩ := h2.is.len
    have := List.getElem_mem h7
    generalize (fcells (rows[j / 7]) _ _)[j % 7] = u at this
    simp [fcells, V.cells] at this
    rcases this with rfl | rfl | rfl | rfl | rfl | rfl | rfl <;> rfl
  have hget : ∀ j, j < rows.length * 7 → ∀ u, w.cell? ⟨b, off + j, none⟩ = some u → (newsOf w b off rows.length)[j]? = some u := fun j hj u hu => by
    unfold newsOf
    rw [List.getElem?_map, List.getElem?_range hj]
    simp [hu]
  refine ⟨hl, fun j u hj => ?_, fun u hu => ?_, fun i hi => ?_⟩
  · have hjl : j < rows.length * 7 := by rw [← hl]; exact (List.getElem?_eq_some_iff.1 hj).1
    obtain ⟨u', h1, _⟩ := hcell j hjl
    rw [hget j hjl u' h1] at hj
    have e : ((⟨b, off, none⟩ : Addr).add j) = ⟨b, off + j, none⟩ := by unfold Addr.add; by_cases h0 : j = 0 <;> simp [h0]
    rw [e, h1, ← hj]
  · obtain ⟨j, hj, rfl⟩ := List.getElem_of_mem hu
    rw [hl] at hj
    obtain ⟨u', h1, h2⟩ := hcell j hj
    have h3 := hget j hj u' h1
    rw [List.getElem?_eq_getElem (by rw [hl]; exact hj)] at h3
    rw [Option.some.inj h3]
    exact h2
  · obtain ⟨lv, fv, h1, h2⟩ := h i hi
    refine ⟨lv, fv, fun j u hj => ?_, h2⟩
    have h7 : j < 7 := (List.getElem?_eq_some_iff.1 hj).1
    have h3 := h1 j u hj
    refine hget (i * 7 + j) (by omega) u ?_
    rw [← h3]
    congr 2
    omega

/-- a row that is owned, with more behind it -/
theorem FRowP.more {w w' : World} {B : Nat} {P : Nat → Prop} (hP : ∀ q, P q → q < B) {v' : Value} {rows rows2 : List Fd} {cs news : List Value} (hcs : cs.length = rows.length * 7)
    (hown : w'.ownsRow B 30 7 v' (rows.length + rows2.length) (cs ++ news)) (hb : ∀ q, q < B → q < w.heap.size → w'.heap[q]? = w.heap[q]?) (hz : w.heap.size ≤ w'.heap.size)
    (hold : ∀ i (h : i < rows.length), ∃ lv fv, (∀ j u, (fcells (rows[i]) lv fv)[j]? = some u → cs[i * 7 + j]? = some u) ∧ (rows[i]).2.At w P lv fv)
    (hnew : ∀ i (h : i < rows2.length), ∃ lv fv, (∀ j u, (fcells (rows2[i]) lv fv)[j]? = some u → news[i * 7 + j]? = some u) ∧ (rows2[i]).2.At w P lv fv) :
    FRowP w' B P v' (rows ++ rows2) := by
  have hne : ∀ q, q < B → v'.ownBlock ≠ some q := fun q hq e => by
    have := (World.ownsRow.lt hown q e).1
    omega
  refine ⟨cs ++ news, by rw [List.length_append]; exact hown, fun i hi => ?_⟩
  by_cases h : i < rows.length
  · obtain ⟨lv, fv, h1, h2⟩ := hold i h
    refine ⟨lv, fv, fun j u hj => ?_, ?_⟩
    · rw [List.getElem_append_left h] at hj
      have h3 := h1 j u hj
      rw [List.getElem?_append_left (List.getElem?_eq_some_iff.1 h3).1]
      exact h3
    · rw [List.getElem_append_left h]
      exact V.At.move (fun q hq hlt => ⟨⟨hq, hne q (hP q hq)⟩, hb q (hP q hq) hlt⟩) hz _ (Nat.le_refl _) h2
  · rw [List.length_append] at hi
    obtain ⟨lv, fv, h1, h2⟩ := hnew (i - rows.length) (by omega)
    refine ⟨lv, fv, fun j u hj => ?_, ?_⟩
    · rw [List.getElem_append_right (by omega)] at hj
      have h3 := h1 j u hj
      rw [List.getElem?_append_right (by omega), hcs, show i * 7 + j - rows.length * 7 = (i - rows.length) * 7 + j by omega]
      exact h3
    · rw [List.getElem_append_right (by omega)]
      exact V.At.move (fun q hq hlt => ⟨⟨hq, hne q (hP q hq)⟩, hb q (hP q hq) hlt⟩) hz _ (Nat.le_refl _) h2

theorem grown_below {w w' : World} {B : Nat} {row : Option Nat} (hg : w.grownBy w' row) (hr : ∀ q, row = some q → B ≤ q) (hB : B ≤ w.heap.size) : Below B w w' :=
  (Below.refl B w).grown hg hB hr

set_option linter.unusedSimpArgs false in
theorem app_none {w : World} {B : Nat} {P : Nat → Prop} {vv : Value} {rows : List Fd} (hrow : GRow w B P vv rows) (sa : Option Addr) (sc : Nat) (ty : TypeId) :
    ∃ v' w', (Builtin.append_ #[22, 22] ty #[vv, .slice sa 0 sc]).run Try.prog w = .ok v' w' ∧ GRow w' B P v' rows ∧ Below B w w' := by
  obtain ⟨i, hi, hz, hi1, hi2⟩ := info_parts infoF
  have hfc := fun x => run_firstCells_some (P := Try.prog) w i.size 0 x 0 sc [] (by simp) (fun j u hj => by simp at hj)
  have hld : ∀ x : Addr, (loadCells x 0).run Try.prog w = .ok #[] w := fun x => by have := hfc x; simpa [Builtin.firstCells] using this
  rcases hrow with hrow | ⟨rfl, b0, off0, rfl⟩
  · obtain ⟨cs, hown, hold⟩ := id hrow
    refine ⟨vv, w, ?_, .inl hrow, Below.refl _ _⟩
    rcases hown.2 with ⟨rfl, h0⟩ | ⟨g, cap, cur, rfl, _, _, hnc, _⟩
    · cases sa <;> simp [Builtin.append_, run_underlying Try.underlying22, sizeOf, typeInfo, hi, Builtin.lenOf, hld, Builtin.firstCells, storeCells]
    · cases sa <;> simp [Builtin.append_, run_underlying Try.underlying22, sizeOf, typeInfo, hi, Builtin.lenOf, hld, Builtin.firstCells, hnc, storeCells]
  · refine ⟨.slice (some ⟨b0, off0, none⟩) 0 0, w, ?_, .inr ⟨rfl, _, _, rfl⟩, Below.refl _ _⟩
    cases sa <;> simp [Builtin.append_, run_underlying Try.underlying22, sizeOf, typeInfo, hi, Builtin.lenOf, hld, Builtin.firstCells, storeCells]

theorem app_flds {w : World} {B : Nat} {P : Nat → Prop} (hP : ∀ q, P q → q < B) {vv : Value} {rows rows2 : List Fd} (hrow : GRow w B P vv rows) (hn : rows.length ≤ 100000) (hm : rows2.length ≤ 100000) (hB : B ≤ w.heap.size) {sa : Option Addr} {sc : Nat}
    (hs : rows2 = [] ∨ ∃ b off, sa = some ⟨b, off, none⟩ ∧ SrcAt w P b off rows2) (ty : TypeId) :
    ∃ v' w', (Builtin.append_ #[22, 22] ty #[vv, .slice sa rows2.length sc]).run Try.prog w = .ok v' w' ∧ GRow w' B P v' (rows ++ rows2) ∧ Below B w w' := by
  by_cases h0 : rows2 = []
  · subst h0
    rw [List.append_nil]
    exact app_none hrow sa sc ty
  obtain ⟨b, off, rfl, hs2⟩ := hs.resolve_left h0
  obtain ⟨i, hi, hz, hi1, hi2⟩ := info_parts infoF
  obtain ⟨n1, n2, n3, n4⟩ := newsOf_get hs2
  rcases hrow with hrow | ⟨rfl, b0, off0, rfl⟩
  · obtain ⟨cs, hown, hold⟩ := id hrow
    have hbB : ∀ q, vv.ownBlock = some q → B ≤ q := fun q hq => (hrow.own q hq).1
    obtain ⟨v', w', hr, ho, hu⟩ := run_app (P := Try.prog) w B 22 ty 30 i _ 7 104 Try.underlying22 hi hz hi1 hi2 rfl (by decide) vv rows.length cs hown ⟨b, off, none⟩ rows2.length sc _ n1 n2 n3 (by unfold maxLen; omega) (by omega) hB
    have hb := grown_below hu.1 hbB hB
    exact ⟨v', w', hr, .inl (FRowP.more hP hown.1 ho (fun q hq _ => hb.block q hq) hb.size (fun i hi => by
      obtain ⟨lv, fv, h1, h2⟩ := hold i hi
      exact ⟨lv, fv, h1, h2.wider fun q hq => hq.1⟩) n4), hb⟩
  · have hpos : 0 < rows2.length := List.length_pos_iff.2 h0
    obtain ⟨v', w', hr, ho, hg⟩ := run_append_arg_grows (P := Try.prog) w 22 ty 30 i _ 7 104 Try.underlying22 hi hz hi1 hi2 rfl (by decide) ⟨b0, off0, none⟩ 0 0 [] rfl (fun j u hj => by simp at hj)
      ⟨b, off, none⟩ rows2.length sc _ n1 n2 (by omega) (by unfold maxLen; omega) (by omega)
    have hb := grown_below (B := B) hg (fun q hq => by cases hq) hB
    have ho' : w'.ownsRow B 30 7 v' (([] : List Fd).length + rows2.length) ([] ++ newsOf w b off rows2.length) := ⟨ho.1, ho.2.imp id fun ⟨g, cap, cur, h1, h2, r⟩ => ⟨g, cap, cur, h1, Nat.le_trans hB h2, r⟩⟩
    exact ⟨v', w', hr, .inl (FRowP.more hP (rows := []) rfl ho' (fun q hq _ => hb.block q hq) hb.size (fun i hi => by simp at hi) n4), hb⟩

theorem fld_hi (a : Option Addr) (n c i : Nat) (h : i ≤ c) (h0 : a = none → i = 0) : ∀ W, (Instr.slice 22 (.slice a n c) none (some (.int .i64 (i : Int))) none).run Try.prog W = .ok (.slice a i c) W := by
  have h1 : (i : Int) ≤ (c : Int) := by omega
  intro W
  cases a with
  | none =>
    obtain rfl := h0 rfl
    go_simp
  | some x => go_simp

theorem fld_lo (a : Option Addr) (n c j : Nat) (h : j ≤ n) (h2 : n ≤ c) (h0 : a = none → n = 0) : ∃ a', (∀ W, (Instr.slice 22 (.slice a n c) (some (.int .i64 (j : Int))) none none).run Try.prog W = .ok (.slice a' (n - j) (c - j)) W) ∧ ∀ b off, a = some ⟨b, off, none⟩ → j < n → a' = some ⟨b, off + j * 7, none⟩ := by
  have h1 : (j : Int) ≤ (n : Int) := by omega
  have h3 : (n : Int) ≤ (c : Int) := by omega
  cases a with
  | none =>
    obtain rfl := h0 rfl
    obtain rfl : j = 0 := by omega
    refine ⟨none, fun W => ?_, fun b off e => by cases e⟩
    go_simp
  | some x =>
    by_cases hc : c = j
    · refine ⟨some x, fun W => ?_, fun b off e hl => by omega⟩
      subst hc
      go_simp
    · refine ⟨some (x.add (j * 7)), fun W => ?_, fun b off e _ => ?_⟩
      · go_simp
      · injection e with e
        subst e
        unfold Addr.add
        by_cases h0 : j * 7 = 0 <;> simp [h0]

end Go.Proofs.Ytljhcnlifdmacaa
end

section
namespace Go.Proofs.Ytljhcnlifdmacaa
open Go.RowKit

theorem slice_nil (a : Option Addr) (l c : Nat) (W : World) : (binOp .eql 22 (.slice a l c) (.slice none 0 0)).run Try.prog W = .ok (.bool a.isNone) W := by
  have h := run_equal_slice_nil (P := Try.prog) W 22 _ a l c Try.underlying22
  simp [binOp, h, Result.andThen]

theorem SrcAt.below {w w' : World} {P P' : Nat → Prop} {b off : Nat} {rows : List Fd} (h : SrcAt w P b off rows) (hlt : b < w.heap.size) (hBB : ∀ q, P q → P' q) (hb : Below w.heap.size w w') : SrcAt w' P' b off rows := fun i hi => by
  obtain ⟨lv, fv, h1, h2⟩ := h i hi
  exact ⟨lv, fv, h1.keep (hb.block b hlt), V.At.move (fun q hq hl => ⟨hBB q hq, hb.block q hl⟩) hb.size _ (Nat.le_refl _) h2⟩

set_option maxHeartbeats 4000000 in
set_option maxRecDepth 100000 in
theorem cloneF_any {w : World} {P : Nat → Prop} (hP : ∀ q, P q → q < w.heap.size) {rows : List Fd} {sa : Option Addr} {sc : Nat} (hm : rows.length ≤ 100000)
    (hs : rows = [] ∨ ∃ b off, sa = some ⟨b, off, none⟩ ∧ b < w.heap.size ∧ SrcAt w P b off rows) :
    Calls Try.prog 33 #[.slice sa rows.length sc] w fun e w' => ∃ v', e = .returned v' ∧ GRow w' w.heap.size P v' rows ∧ Below w.heap.size w w' := by
  cases sa with
  | none =>
    obtain rfl : rows = [] := hs.resolve_right fun ⟨b, off, e, _⟩ => by cases e
    have hnil := slice_nil none 0 sc
    simp only [Option.isNone_none] at hnil
    simp only [List.length_nil]
    go_enter Try.func33, Try.ntmps33
    go_wp2
    go_ret
    exact ⟨_, rfl, .inl ⟨[], World.ownsRow_nil w w.heap.size 30 7, fun i h => by simp at h⟩, Below.refl _ _⟩
  | some x =>
    have hA : Below w.heap.size w (w.alloc (.cells #[] 30)) := (Below.refl _ w).alloc (Nat.le_refl _) _
    have hg : GRow (w.alloc (.cells #[] 30)) w.heap.size P (.slice (some ⟨w.heap.size, 0, none⟩) 0 0) [] := .inl ⟨[], World.ownsRow_made w #[] 0 (Nat.le_refl _) (by decide) rfl, fun i h => by simp at h⟩
    obtain ⟨v', w', hr, hg', hb'⟩ := app_flds hP (sa := some x) (sc := sc) hg (by simp) hm (by simp) (hs.imp id fun ⟨b, off, e, hlt, hs⟩ => ⟨b, off, e, hs.below hlt (fun _ h => h) hA⟩) 22
    have hnil := slice_nil (some x) rows.length sc
    simp only [Option.isNone_some] at hnil
    have HF : Hid (GRow w' w.heap.size P v' rows ∧ Below w.heap.size w w') := Lib.hid ⟨by simpa using hg', hA.trans hb'⟩
    clear hA hg hg' hb' hs
    go_enter Try.func33, Try.ntmps33
    go_wp2_with (at_builtin; refine Lib.wpList_append_run _ rfl _ _ _ _ rfl _ _ rfl rfl _ _ hr ?_)
    go_ret
    exact ⟨_, rfl, HF.out.1, HF.out.2⟩

/-- six cells stored into a box: they are read back, with a new block behind or without -/
theorem box_ends {w : World} {b : Nat} {T : TypeId} {c0 c1 c2 c3 c4 c5 : Value} {z0 z1 z2 z3 z4 z5 : Value} (h : Box w b T #[z0, z1, z2, z3, z4, z5]) :
    (sets w b 0 [c0, c1, c2, c3, c4, c5]).cell? ⟨b, 0, none⟩ = some c0 ∧ (sets w b 0 [c0, c1, c2, c3, c4, c5]).cell? ⟨b, 1, none⟩ = some c1 ∧ (sets w b 0 [c0, c1, c2, c3, c4, c5]).cell? ⟨b, 2, none⟩ = some c2 ∧ (sets w b 0 [c0, c1, c2, c3, c4, c5]).cell? ⟨b, 3, none⟩ = some c3 ∧ (sets w b 0 [c0, c1, c2, c3, c4, c5]).cell? ⟨b, 4, none⟩ = some c4 ∧ (sets w b 0 [c0, c1, c2, c3, c4, c5]).cell? ⟨b, 5, none⟩ = some c5 := by
  have hF := Box.sets [c0, c1, c2, c3, c4, c5] 0 h
  obtain ⟨⟨k0, k1, k2, k3, k4, k5⟩, _⟩ := Box.six (c0 := c0) (c1 := c1) (c2 := c2) (c3 := c3) (c4 := c4) (c5 := c5) hF
  exact ⟨k0, k1, k2, k3, k4, k5⟩

theorem box_ends_alloc {w : World} {b : Nat} {T : TypeId} {c0 c1 c2 c3 c4 c5 : Value} {z0 z1 z2 z3 z4 z5 : Value} (h : Box w b T #[z0, z1, z2, z3, z4, z5]) (o : Obj) :
    ((sets w b 0 [c0, c1, c2, c3, c4, c5]).alloc o).cell? ⟨b, 0, none⟩ = some c0 ∧ ((sets w b 0 [c0, c1, c2, c3, c4, c5]).alloc o).cell? ⟨b, 1, none⟩ = some c1 ∧ ((sets w b 0 [c0, c1, c2, c3, c4, c5]).alloc o).cell? ⟨b, 2, none⟩ = some c2 ∧ ((sets w b 0 [c0, c1, c2, c3, c4, c5]).alloc o).cell? ⟨b, 3, none⟩ = some c3 ∧ ((sets w b 0 [c0, c1, c2, c3, c4, c5]).alloc o).cell? ⟨b, 4, none⟩ = some c4 ∧ ((sets w b 0 [c0, c1, c2, c3, c4, c5]).alloc o).cell? ⟨b, 5, none⟩ = some c5 := by
  obtain ⟨k0, k1, k2, k3, k4, k5⟩ := box_ends (c0 := c0) (c1 := c1) (c2 := c2) (c3 := c3) (c4 := c4) (c5 := c5) h
  have hlt : b < (sets w b 0 [c0, c1, c2, c3, c4, c5]).heap.size := by rw [sets_size]; exact h.lt
  have hA : Below (sets w b 0 [c0, c1, c2, c3, c4, c5]).heap.size (sets w b 0 [c0, c1, c2, c3, c4, c5]) ((sets w b 0 [c0, c1, c2, c3, c4, c5]).alloc o) := (Below.refl _ _).alloc (Nat.le_refl _) _
  exact ⟨(hA.cell (p := ⟨b, 0, none⟩) hlt).trans k0, (hA.cell (p := ⟨b, 1, none⟩) hlt).trans k1, (hA.cell (p := ⟨b, 2, none⟩) hlt).trans k2, (hA.cell (p := ⟨b, 3, none⟩) hlt).trans k3, (hA.cell (p := ⟨b, 4, none⟩) hlt).trans k4, (hA.cell (p := ⟨b, 5, none⟩) hlt).trans k5⟩

theorem below_ends {w w1 : World} {b : Nat} (h : Below w.heap.size w w1) (hb : w.heap.size ≤ b) (cs : List Value) : Below w.heap.size w (sets w1 b 0 cs) := Below.sets cs 0 h hb
theorem below_ends_alloc {w w1 : World} {b : Nat} (h : Below w.heap.size w w1) (hb : w.heap.size ≤ b) (cs : List Value) (o : Obj) : Below w.heap.size w ((sets w1 b 0 cs).alloc o) := (below_ends h hb cs).alloc (below_ends h hb cs).size _

theorem at_ends {v : V} {w1 : World} {S S' : Nat → Prop} {lv fv : Value} {b : Nat} (h : v.At w1 S lv fv) (hS : ∀ q, S q → q ≠ b ∧ S' q) (cs : List Value) : v.At (sets w1 b 0 cs) S' lv fv :=
  V.At.move (fun q hq _ => ⟨(hS q hq).2, sets_far _ _ _ _ (hS q hq).1⟩) (by rw [sets_size]; exact Nat.le_refl _) _ (Nat.le_refl _) h
theorem at_ends_alloc {v : V} {w1 : World} {S S' : Nat → Prop} {lv fv : Value} {b : Nat} (h : v.At w1 S lv fv) (hS : ∀ q, S q → q ≠ b ∧ S' q) (cs : List Value) (o : Obj) : v.At ((sets w1 b 0 cs).alloc o) S' lv fv :=
  (at_ends h hS cs).below ((Below.refl _ _).alloc (Nat.le_refl _) _)

/-- what a call gives that makes a value, or none, or tells an error -/
def FResP (r : Except Int (Option V)) (S : Nat → Prop) (w : World) (e : Ending) (w' : World) : Prop :=
  Below w.heap.size w w' ∧ match r with
  | .ok (some v) => ∃ a c a' c', e = .returned (.tuple #[.agg #[.int .i64 v.kind, .bool v.yes, .int .i64 v.num, .string v.text, .slice a v.list.length c, .slice a' v.fields.length c'], .bool true, .int .i64 0]) ∧ v.At w' (fun q => S q ∨ w.heap.size ≤ q) (.slice a v.list.length c) (.slice a' v.fields.length c')
  | .ok none => e = .returned (.tuple #[.agg #[.int .i64 0, .bool false, .int .i64 0, .string ⟨#[]⟩, .slice none 0 0, .slice none 0 0], .bool false, .int .i64 0])
  | .error c => c ≠ 0 ∧ ∃ b, e = .returned (.tuple #[.agg #[.int .i64 0, .bool false, .int .i64 0, .string ⟨#[]⟩, .slice none 0 0, .slice none 0 0], .bool b, .int .i64 c])

set_option maxHeartbeats 4000000 in
set_option maxRecDepth 100000 in
theorem field_last (o : PO) (pa : Option Addr) (pl pc : Nat) (oa : Option Addr) (oc : Nat) (ob : Option Addr) (od : Nat) (x : V) (la : Option Addr) (lc : Nat) (fa : Option Addr) (fc : Nat) (t : Bool) (ra : Option Addr) (rc : Nat) (w : World) (S : Nat → Prop) (hS : ∀ q, S q → q < w.heap.size)
    (ho : o.val.At w S (.slice oa o.val.list.length oc) (.slice ob o.val.fields.length od)) (hx6 : Is64 x.num) (ho6 : Is64 o.val.num) :
    Calls Try.prog 64 #[.agg #[.int .i64 o.kind, .slice pa pl pc, .int .i64 o.val.kind, .bool o.val.yes, .int .i64 o.val.num, .string o.val.text, .slice oa o.val.list.length oc, .slice ob o.val.fields.length od], .agg #[.int .i64 x.kind, .bool x.yes, .int .i64 x.num, .string x.text, .slice la x.list.length lc, .slice fa x.fields.length fc], .bool t, .slice ra 0 rc] w (FResP (lastV o x t) S w) := by
  have hb3 : ∀ c3 c2 c1, Below w.heap.size w (((w.alloc (.cells c1 50)).alloc (.cells c2 26)).alloc (.cells c3 26)) := fun c3 c2 c1 => (((Below.refl _ w).alloc (Nat.le_refl _) _).alloc (by simp) _).alloc (by simp; omega) _
  have HB := Lib.hid hb3
  have HO := Lib.hid ho
  have HSS := Lib.hid hS
  clear hb3 ho hS
  by_cases k1 : o.kind = 1
  · have hr : lastV o x t = .ok (some o.val) := by unfold lastV; rw [if_pos k1]
    rw [hr]
    have g1 : (o.kind == 1) = true := by rw [beq_iff_eq]; exact k1
    clear hr k1
    go_enter Try.func64, Try.ntmps64
    go_wp2
    refine bodyPost_ret (v := .tuple #[.agg #[.int .i64 o.val.kind, .bool o.val.yes, .int .i64 o.val.num, .string o.val.text, .slice oa o.val.list.length oc, .slice ob o.val.fields.length od], .bool true, .int .i64 0]) (by simp [results, Try.results64, go_sem]) rfl ⟨HB.out _ _ _, _, _, _, _, rfl, (HO.out.below (HB.out _ _ _)).wider fun q hq => .inl hq⟩
  have g1 : (o.kind == 1) = false := by rw [beq_eq_false_iff_ne]; exact k1
  cases t with
  | false =>
    have hr : lastV o x false = .error 5 := by unfold lastV; rw [if_neg k1, if_pos rfl]
    rw [hr]
    clear hr k1
    go_enter Try.func64, Try.ntmps64
    go_wp2
    refine bodyPost_ret (v := .tuple #[.agg #[.int .i64 0, .bool false, .int .i64 0, .string ⟨#[]⟩, .slice none 0 0, .slice none 0 0], .bool false, .int .i64 5]) (by simp [results, Try.results64, go_sem]) rfl ⟨HB.out _ _ _, by decide, _, rfl⟩
  | true =>
    by_cases k2 : o.kind = 2
    · have hr : lastV o x true = .ok none := by unfold lastV; rw [if_neg k1, if_neg (by decide), if_pos k2]
      rw [hr]
      have g2 : (o.kind == 2) = true := by rw [beq_iff_eq]; exact k2
      clear hr k1 k2
      go_enter Try.func64, Try.ntmps64
      go_wp2
      refine bodyPost_ret (v := .tuple #[.agg #[.int .i64 0, .bool false, .int .i64 0, .string ⟨#[]⟩, .slice none 0 0, .slice none 0 0], .bool false, .int .i64 0]) (by simp [results, Try.results64, go_sem]) rfl ⟨HB.out _ _ _, rfl⟩
    · have hr : lastV o x true = (addV x o.val.num).map some := by unfold lastV; rw [if_neg k1, if_neg (by decide), if_neg k2]
      rw [hr]
      have g2 : (o.kind == 2) = false := by rw [beq_eq_false_iff_ne]; exact k2
      have hadd := fun W => add_any x la x.list.length lc fa x.fields.length fc o.val.num W hx6 ho6 S
      have HADD := Lib.hid hadd
      clear hr k1 k2 hadd hx6 ho6
      go_enter Try.func64, Try.ntmps64
      go_wp2_with fail
      refine (HADD.out _).mono ?_
      rintro e w1 ⟨hb1, h⟩
      have hZ1 : Box w1 (w.heap.size + 1 + 1) 26 #[.int .i64 0, .bool false, .int .i64 0, .string ⟨#[]⟩, .slice none 0 0, .slice none 0 0] := by
        have h9 := Box.new ((w.alloc (.cells #[.int .i64 o.kind, .slice pa pl pc, .int .i64 o.val.kind, .bool o.val.yes, .int .i64 o.val.num, .string o.val.text, .slice oa o.val.list.length oc, .slice ob o.val.fields.length od] 50)).alloc (.cells #[.int .i64 x.kind, .bool x.yes, .int .i64 x.num, .string x.text, .slice la x.list.length lc, .slice fa x.fields.length fc] 26)) 26 #[.int .i64 0, .bool false, .int .i64 0, .string ⟨#[]⟩, .slice none 0 0, .slice none 0 0]
        rw [show ((w.alloc (.cells #[.int .i64 o.kind, .slice pa pl pc, .int .i64 o.val.kind, .bool o.val.yes, .int .i64 o.val.num, .string o.val.text, .slice oa o.val.list.length oc, .slice ob o.val.fields.length od] 50)).alloc (.cells #[.int .i64 x.kind, .bool x.yes, .int .i64 x.num, .string x.text, .slice la x.list.length lc, .slice fa x.fields.length fc] 26)).heap.size = w.heap.size + 1 + 1 by simp] at h9
        exact (hb1.block _ (by simp)).trans h9
      have hb01 : Below w.heap.size w w1 := (HB.out _ _ _).trans (hb1.mono (HB.out _ _ _).size)
      have hge : w.heap.size ≤ w.heap.size + 1 + 1 := by omega
      have hsz : (((w.alloc (.cells #[.int .i64 o.kind, .slice pa pl pc, .int .i64 o.val.kind, .bool o.val.yes, .int .i64 o.val.num, .string o.val.text, .slice oa o.val.list.length oc, .slice ob o.val.fields.length od] 50)).alloc (.cells #[.int .i64 x.kind, .bool x.yes, .int .i64 x.num, .string x.text, .slice la x.list.length lc, .slice fa x.fields.length fc] 26)).alloc (.cells #[.int .i64 0, .bool false, .int .i64 0, .string ⟨#[]⟩, .slice none 0 0, .slice none 0 0] 26)).heap.size = w.heap.size + 1 + 1 + 1 := by simp
      rw [hsz] at h
      obtain ⟨⟨z0, z1, z2, z3, z4, z5⟩, s0, s1, s2, s3, s4, s5⟩ := hZ1.six
      have hzl := hZ1.lt
      clear hb1 hsz
      cases hadd : addV x o.val.num with
      | error c =>
        rw [hadd] at h
        obtain ⟨hc, rfl⟩ := h
        obtain ⟨k0, k1, k2, k3, k4, k5⟩ := box_ends_alloc (c0 := .int .i64 0) (c1 := .bool false) (c2 := .int .i64 0) (c3 := .string ⟨#[]⟩) (c4 := .slice none 0 0) (c5 := .slice none 0 0) hZ1 (.cells #[.int .i64 0, .bool false, .int .i64 0, .string ⟨#[]⟩, .slice none 0 0, .slice none 0 0] 26)
        simp only [sets, Nat.zero_add, Nat.reduceAdd] at k0 k1 k2 k3 k4 k5
        have HO2 : Hid (FResP ((addV x o.val.num).map some) S w (.returned (.tuple #[.agg #[.int .i64 0, .bool false, .int .i64 0, .string ⟨#[]⟩, .slice none 0 0, .slice none 0 0], .bool true, .int .i64 c])) ((sets w1 (w.heap.size + 1 + 1) 0 [.int .i64 0, .bool false, .int .i64 0, .string ⟨#[]⟩, .slice none 0 0, .slice none 0 0]).alloc (.cells #[.int .i64 0, .bool false, .int .i64 0, .string ⟨#[]⟩, .slice none 0 0, .slice none 0 0] 26))) := Lib.hid (by rw [hadd]; exact ⟨below_ends_alloc hb01 hge _ _, hc, _, rfl⟩)
        clear hZ1 hb01 hge hc hadd
        go_wp2
        refine bodyPost_ret (v := .tuple #[.agg #[.int .i64 0, .bool false, .int .i64 0, .string ⟨#[]⟩, .slice none 0 0, .slice none 0 0], .bool true, .int .i64 c]) (by simp [results, Try.results64, go_sem, k0, k1, k2, k3, k4, k5]) rfl HO2.out
      | ok v =>
        rw [hadd] at h
        obtain ⟨a, c, a', c', rfl, hat⟩ := h
        obtain ⟨k0, k1, k2, k3, k4, k5⟩ := box_ends_alloc (c0 := .int .i64 v.kind) (c1 := .bool v.yes) (c2 := .int .i64 v.num) (c3 := .string v.text) (c4 := .slice a v.list.length c) (c5 := .slice a' v.fields.length c') hZ1 (.cells #[.int .i64 v.kind, .bool v.yes, .int .i64 v.num, .string v.text, .slice a v.list.length c, .slice a' v.fields.length c'] 26)
        simp only [sets, Nat.zero_add, Nat.reduceAdd] at k0 k1 k2 k3 k4 k5
        have HO2 : Hid (FResP ((addV x o.val.num).map some) S w (.returned (.tuple #[.agg #[.int .i64 v.kind, .bool v.yes, .int .i64 v.num, .string v.text, .slice a v.list.length c, .slice a' v.fields.length c'], .bool true, .int .i64 0])) ((sets w1 (w.heap.size + 1 + 1) 0 [.int .i64 v.kind, .bool v.yes, .int .i64 v.num, .string v.text, .slice a v.list.length c, .slice a' v.fields.length c']).alloc (.cells #[.int .i64 v.kind, .bool v.yes, .int .i64 v.num, .string v.text, .slice a v.list.length c, .slice a' v.fields.length c'] 26))) := Lib.hid (by rw [hadd]; exact ⟨below_ends_alloc hb01 hge _ _, a, c, a', c', rfl, at_ends_alloc hat (fun q hq => hq.elim (fun h => ⟨by have := HSS.out q h; omega, .inl h⟩) (fun h => ⟨by omega, .inr (by omega)⟩)) _ _⟩)
        clear hZ1 hb01 hge hadd hat
        go_wp2
        refine bodyPost_ret (v := .tuple #[.agg #[.int .i64 v.kind, .bool v.yes, .int .i64 v.num, .string v.text, .slice a v.list.length c, .slice a' v.fields.length c'], .bool true, .int .i64 0]) (by simp [results, Try.results64, go_sem, k0, k1, k2, k3, k4, k5]) rfl HO2.out

end Go.Proofs.Ytljhcnlifdmacaa
end

section
namespace Go.Proofs.Ytljhcnlifdmacaa
open Go.RowKit

attribute [local irreducible] wpStill
attribute [-go_sem] Builtin.append_

theorem box_sets6 {w : World} {b : Nat} {T : TypeId} {z0 z1 z2 z3 z4 z5 : Value} (h : Box w b T #[z0, z1, z2, z3, z4, z5]) (c0 c1 c2 c3 c4 c5 : Value) : Box (sets w b 0 [c0, c1, c2, c3, c4, c5]) b T #[c0, c1, c2, c3, c4, c5] := by
  have h1 := Box.sets [c0, c1, c2, c3, c4, c5] 0 h
  rw [show aset #[z0, z1, z2, z3, z4, z5] 0 [c0, c1, c2, c3, c4, c5] = #[c0, c1, c2, c3, c4, c5] by simp [aset]] at h1
  exact h1

/-- the first of a value's fields, and the others, as they lie -/
theorem src_of {w : World} {S : Nat → Prop} {f : List Fd} {fa : Option Addr} {fc : Nat} (h : FAt w S f (.slice fa f.length fc)) : f.length ≤ fc ∧ (fa = none → f = []) ∧ (f = [] ∨ ∃ b off, fa = some ⟨b, off, none⟩ ∧ b < w.heap.size ∧ SrcAt w S b off f) := by
  obtain ⟨a', c', e, h1, _, h2⟩ := h
  injection e with e1 _ e3
  subst e1
  subst e3
  refine ⟨h1, (fun e => h2.resolve_right fun ⟨b, off, e2, _⟩ => by rw [e] at e2; cases e2), h2.imp id fun ⟨b, off, e2, _, hlt, hC⟩ => ⟨b, off, e2, hlt, fun i hi => hC.get hi⟩⟩

theorem SrcAt.take {w : World} {S : Nat → Prop} {f : List Fd} {b off : Nat} (h : SrcAt w S b off f) (i : Nat) : SrcAt w S b off (f.take i) := fun j hj => by
  rw [List.length_take] at hj
  have := h j (by omega)
  rw [List.getElem_take]
  exact this

theorem SrcAt.drop {w : World} {S : Nat → Prop} {f : List Fd} {b off : Nat} (h : SrcAt w S b off f) (i : Nat) : SrcAt w S b (off + i * 7) (f.drop i) := fun j hj => by
  rw [List.length_drop] at hj
  have := h (i + j) (by omega)
  rw [List.getElem_drop]
  rw [show off + i * 7 + j * 7 = off + (i + j) * 7 by omega]
  exact this

theorem SrcAt.belowB {w w' : World} {P : Nat → Prop} {B b off : Nat} {rows : List Fd} (h : SrcAt w P b off rows) (hlt : b < B) (hP : ∀ q, P q → q < B) (hb : Below B w w') : SrcAt w' P b off rows := fun i hi => by
  obtain ⟨lv, fv, h1, h2⟩ := h i hi
  exact ⟨lv, fv, h1.keep (hb.block b hlt), V.At.move (fun q hq _ => ⟨hq, hb.block q (hP q hq)⟩) hb.size _ (Nat.le_refl _) h2⟩

theorem SrcAt.wider {w : World} {S S' : Nat → Prop} {f : List Fd} {b off : Nat} (h : SrcAt w S b off f) (hS : ∀ q, S q → S' q) : SrcAt w S' b off f := fun j hj => by
  obtain ⟨lv, fv, h1, h2⟩ := h j hj
  exact ⟨lv, fv, h1, h2.wider hS⟩

/-- the boxes of along -/
def AS (w : World) (oc vc : Array Value) (pb poff : Nat) (n : ByteArray) (W : World) : Prop :=
  Box W w.heap.size 50 oc ∧ Box W (w.heap.size + 1) 26 vc ∧ Box W (w.heap.size + 1 + 1) 26 #[.int .i64 0, .bool false, .int .i64 0, .string ⟨#[]⟩, .slice none 0 0, .slice none 0 0] ∧ (W.cell? ⟨pb, poff, none⟩ = some (.string n) ∧ pb < w.heap.size) ∧ Below w.heap.size w W

theorem AS.size {w W : World} {oc vc : Array Value} {pb poff : Nat} {n : ByteArray} (h : AS w oc vc pb poff n W) : w.heap.size + 3 ≤ W.heap.size := by have := h.2.2.1.lt; omega

theorem AS.below {w W W' : World} {oc vc : Array Value} {pb poff : Nat} {n : ByteArray} (h : AS w oc vc pb poff n W) (hb : Below W.heap.size W W') : AS w oc vc pb poff n W' :=
  ⟨(hb.block _ h.1.lt).trans h.1, (hb.block _ h.2.1.lt).trans h.2.1, (hb.block _ h.2.2.1.lt).trans h.2.2.1, ⟨(hb.cell (p := ⟨pb, poff, none⟩) (Nat.lt_of_lt_of_le h.2.2.2.1.2 h.2.2.2.2.size)).trans h.2.2.2.1.1, h.2.2.2.1.2⟩, h.2.2.2.2.trans (hb.mono h.2.2.2.2.size)⟩

theorem AS.sets {w W : World} {oc vc : Array Value} {pb poff : Nat} {n : ByteArray} (h : AS w oc vc pb poff n W) {b : Nat} (hb : w.heap.size + 3 ≤ b) (cs : List Value) : AS w oc vc pb poff n (Proofs.Ytljhcnlifdmacaa.sets W b 0 cs) := by
  obtain ⟨h1, h2, h3, ⟨h4, h5⟩, h6⟩ := h
  have hf : ∀ q, q < w.heap.size + 3 → (Proofs.Ytljhcnlifdmacaa.sets W b 0 cs).heap[q]? = W.heap[q]? := fun q hq => sets_far _ _ _ _ (by omega)
  exact ⟨(hf _ (by omega)).trans h1, (hf _ (by omega)).trans h2, (hf _ (by omega)).trans h3, ⟨(World.cell?_of_block (a := ⟨pb, poff, none⟩) (hf pb (by omega))).trans h4, h5⟩, Below.sets cs 0 h6 (by omega)⟩

theorem AS.belowB {w W W' : World} {oc vc : Array Value} {pb poff B : Nat} {n : ByteArray} (h : AS w oc vc pb poff n W) (hB : w.heap.size + 3 ≤ B) (hb : Below B W W') : AS w oc vc pb poff n W' := by
  obtain ⟨h1, h2, h3, ⟨h4, h5⟩, h6⟩ := h
  exact ⟨(hb.block _ (by omega)).trans h1, (hb.block _ (by omega)).trans h2, (hb.block _ (by omega)).trans h3, ⟨(World.cell?_of_block (a := ⟨pb, poff, none⟩) (hb.block pb (by omega))).trans h4, h5⟩, h6.trans (hb.mono (by omega))⟩

/-- what the call of field left -/
def R2 (r : Except Int (Option V)) (S : Nat → Prop) (xb : Nat) (st : Bool) (ec : Int) (wx : World) : Prop :=
  match r with
  | .error c => ec = c ∧ c ≠ 0
  | .ok none => st = false ∧ ec = 0
  | .ok (some y) => st = true ∧ ec = 0 ∧ ∃ ya yc yb yd, Box wx xb 26 #[.int .i64 y.kind, .bool y.yes, .int .i64 y.num, .string y.text, .slice ya y.list.length yc, .slice yb y.fields.length yd] ∧ y.At wx S (.slice ya y.list.length yc) (.slice yb y.fields.length yd)

theorem Box.eight {w : World} {b : Nat} {T : TypeId} {c0 c1 c2 c3 c4 c5 c6 c7 : Value} (h : Box w b T #[c0, c1, c2, c3, c4, c5, c6, c7]) :
    w.cell? ⟨b, 0, none⟩ = some c0 ∧ w.cell? ⟨b, 1, none⟩ = some c1 ∧ w.cell? ⟨b, 2, none⟩ = some c2 ∧ w.cell? ⟨b, 3, none⟩ = some c3 ∧ w.cell? ⟨b, 4, none⟩ = some c4 ∧ w.cell? ⟨b, 5, none⟩ = some c5 ∧ w.cell? ⟨b, 6, none⟩ = some c6 ∧ w.cell? ⟨b, 7, none⟩ = some c7 := by
  refine ⟨?_, ?_, ?_, ?_, ?_, ?_, ?_, ?_⟩ <;> (rw [h.cell]; rfl)

theorem str_lo (b off n c : Nat) (h : 1 ≤ n) (h2 : n ≤ c) : ∃ off', (∀ W, (Instr.slice 48 (.slice (some ⟨b, off, none⟩) n c) (some (.int .i64 1)) none none).run Try.prog W = .ok (.slice (some ⟨b, off', none⟩) (n - 1) (c - 1)) W) ∧ (1 < n → off' = off + 1) := by
  have h1 : (1 : Int) ≤ (n : Int) := by omega
  have h3 : (n : Int) ≤ (c : Int) := by omega
  by_cases hc : c = 1
  · refine ⟨off, fun W => ?_, fun h => by omega⟩
    subst hc
    go_simp
  · refine ⟨off + 1, fun W => ?_, fun _ => rfl⟩
    go_simp

set_option maxHeartbeats 8000000 in
set_option maxRecDepth 100000 in
theorem along_core (o : PO) (n : ByteArray) (m : Nat) (r : Except Int (Option V)) (v : V) (pa : Option Addr) (pl pc : Nat) (oa : Option Addr) (oc : Nat) (ob : Option Addr) (od : Nat) (la : Option Addr) (lc : Nat) (fa : Option Addr) (fc : Nat) (pb poff pk : Nat) (k : Nat) (w : World) (S : Nat → Prop) (hS : ∀ q, S q → q < w.heap.size)
    (hv : v.At w S (.slice la v.list.length lc) (.slice fa v.fields.length fc)) (hpb : pb < w.heap.size) (hn : w.cell? ⟨pb, poff, none⟩ = some (.string n)) (hm : m + 1 ≤ pk) (hok : v.okv k) (hk : k ≤ 90000)
    (hfield : ∀ (W : World) xa xc xb xd off', Below w.heap.size w W → (valF v.fields n).At W S (.slice xa (valF v.fields n).list.length xc) (.slice xb (valF v.fields n).fields.length xd) → (0 < m → off' = poff + 1) →
      Calls Try.prog 64 #[.agg #[.int .i64 o.kind, .slice pa pl pc, .int .i64 o.val.kind, .bool o.val.yes, .int .i64 o.val.num, .string o.val.text, .slice oa o.val.list.length oc, .slice ob o.val.fields.length od], .agg #[.int .i64 (valF v.fields n).kind, .bool (valF v.fields n).yes, .int .i64 (valF v.fields n).num, .string (valF v.fields n).text, .slice xa (valF v.fields n).list.length xc, .slice xb (valF v.fields n).fields.length xd], .bool (isF v.fields n), .slice (some ⟨pb, off', none⟩) m (pk - 1)] W (FResP r S W)) :
    Calls Try.prog 43 #[.agg #[.int .i64 o.kind, .slice pa pl pc, .int .i64 o.val.kind, .bool o.val.yes, .int .i64 o.val.num, .string o.val.text, .slice oa o.val.list.length oc, .slice ob o.val.fields.length od], .agg #[.int .i64 v.kind, .bool v.yes, .int .i64 v.num, .string v.text, .slice la v.list.length lc, .slice fa v.fields.length fc], .slice (some ⟨pb, poff, none⟩) (m + 1) pk] w
      (ResP (if v.kind ≠ 5 then .error 5 else r.map fun y => v.setF (putV v.fields n y)) S w) := by
  have hb3 : Below w.heap.size w (((w.alloc (.cells #[.int .i64 o.kind, .slice pa pl pc, .int .i64 o.val.kind, .bool o.val.yes, .int .i64 o.val.num, .string o.val.text, .slice oa o.val.list.length oc, .slice ob o.val.fields.length od] 50)).alloc (.cells #[.int .i64 v.kind, .bool v.yes, .int .i64 v.num, .string v.text, .slice la v.list.length lc, .slice fa v.fields.length fc] 26)).alloc (.cells #[.int .i64 0, .bool false, .int .i64 0, .string ⟨#[]⟩, .slice none 0 0, .slice none 0 0] 26)) := (((Below.refl _ w).alloc (Nat.le_refl _) _).alloc (by simp) _).alloc (by simp; omega) _
  have HSS := Lib.hid hS
  clear hS
  by_cases hk5 : v.kind = 5
  · have g1 : (v.kind != 5) = false := by simp [hk5]
    obtain ⟨⟨hol, hof, horise, honum⟩, hokl, hokf⟩ := okv_iff.1 hok
    have hfa := (V.at_iff.1 hv).2
    have hplace := place_any ((FAt.move (fun b _ hlt => ⟨trivial, hb3.drew.block b hlt⟩) hb3.drew.size hfa : FAt (((w.alloc (.cells #[.int .i64 o.kind, .slice pa pl pc, .int .i64 o.val.kind, .bool o.val.yes, .int .i64 o.val.num, .string o.val.text, .slice oa o.val.list.length oc, .slice ob o.val.fields.length od] 50)).alloc (.cells #[.int .i64 v.kind, .bool v.yes, .int .i64 v.num, .string v.text, .slice la v.list.length lc, .slice fa v.fields.length fc] 26)).alloc (.cells #[.int .i64 0, .bool false, .int .i64 0, .string ⟨#[]⟩, .slice none 0 0, .slice none 0 0] 26)).drew All v.fields _)) (by omega) horise n
    have hp1 : pb < w.heap.size + 1 := by omega
    have hp2 : pb < w.heap.size + 1 + 1 := by omega
    have hp3 : ¬ pb = w.heap.size := by omega
    have hp4 : ¬ pb = w.heap.size + 1 := by omega
    have hp5 : ¬ pb = w.heap.size + 1 + 1 := by omega
    have hpk : (1 : Int) ≤ (pk : Int) := by omega
    have hm1 : (0 : Int) < ((m + 1 : Nat) : Int) := by omega
    have HB := Lib.hid hb3
    have HP := Lib.hid hplace
    have HV := Lib.hid (And.intro hv hok)
    have HFD := Lib.hid hfield
    rw [if_neg (by simpa using hk5)]
    clear hb3 hfield hv hok hplace hol hof horise honum hokl hokf hfa hk5
    go_enter Try.func43, Try.ntmps43
    go_wp2_with fail
    refine wp_region_mid 5 _ (by kernel_rfl) (by kernel_rfl) rfl ?_
    change wpStill _ _ (World.drew _) (fun a' => MidCall _ _ _ _ _ a' (World.drew _)) _ _
    simp only [List.take_succ_cons, List.take_zero, List.drop_succ_cons, List.drop_zero]
    repeat still_step
    refine wpStill_nil ?_
    refine midCall_of (by rfl) _ _ ?_ HP.out ?_
    · go_simp
    rintro w1 hb1
    have hb01 : Below w.heap.size w w1 := HB.out.drew.trans (hb1.mono HB.out.drew.size)
    have hAS : AS w #[.int .i64 o.kind, .slice pa pl pc, .int .i64 o.val.kind, .bool o.val.yes, .int .i64 o.val.num, .string o.val.text, .slice oa o.val.list.length oc, .slice ob o.val.fields.length od] #[.int .i64 v.kind, .bool v.yes, .int .i64 v.num, .string v.text, .slice la v.list.length lc, .slice fa v.fields.length fc] pb poff n w1 := by
      have e1 := Box.new (w.alloc (.cells #[.int .i64 o.kind, .slice pa pl pc, .int .i64 o.val.kind, .bool o.val.yes, .int .i64 o.val.num, .string o.val.text, .slice oa o.val.list.length oc, .slice ob o.val.fields.length od] 50)) 26 #[.int .i64 v.kind, .bool v.yes, .int .i64 v.num, .string v.text, .slice la v.list.length lc, .slice fa v.fields.length fc]
      have e2 := Box.new ((w.alloc (.cells #[.int .i64 o.kind, .slice pa pl pc, .int .i64 o.val.kind, .bool o.val.yes, .int .i64 o.val.num, .string o.val.text, .slice oa o.val.list.length oc, .slice ob o.val.fields.length od] 50)).alloc (.cells #[.int .i64 v.kind, .bool v.yes, .int .i64 v.num, .string v.text, .slice la v.list.length lc, .slice fa v.fields.length fc] 26)) 26 #[.int .i64 0, .bool false, .int .i64 0, .string ⟨#[]⟩, .slice none 0 0, .slice none 0 0]
      rw [show (w.alloc (.cells #[.int .i64 o.kind, .slice pa pl pc, .int .i64 o.val.kind, .bool o.val.yes, .int .i64 o.val.num, .string o.val.text, .slice oa o.val.list.length oc, .slice ob o.val.fields.length od] 50)).heap.size = w.heap.size + 1 by simp] at e1
      rw [show ((w.alloc (.cells #[.int .i64 o.kind, .slice pa pl pc, .int .i64 o.val.kind, .bool o.val.yes, .int .i64 o.val.num, .string o.val.text, .slice oa o.val.list.length oc, .slice ob o.val.fields.length od] 50)).alloc (.cells #[.int .i64 v.kind, .bool v.yes, .int .i64 v.num, .string v.text, .slice la v.list.length lc, .slice fa v.fields.length fc] 26)).heap.size = w.heap.size + 1 + 1 by simp] at e2
      have e0 := ((Box.new w 50 #[.int .i64 o.kind, .slice pa pl pc, .int .i64 o.val.kind, .bool o.val.yes, .int .i64 o.val.num, .string o.val.text, .slice oa o.val.list.length oc, .slice ob o.val.fields.length od]).alloc (.cells #[.int .i64 v.kind, .bool v.yes, .int .i64 v.num, .string v.text, .slice la v.list.length lc, .slice fa v.fields.length fc] 26)).alloc (.cells #[.int .i64 0, .bool false, .int .i64 0, .string ⟨#[]⟩, .slice none 0 0, .slice none 0 0] 26)
      have e1' := e1.alloc (.cells #[.int .i64 0, .bool false, .int .i64 0, .string ⟨#[]⟩, .slice none 0 0, .slice none 0 0] 26)
      exact ⟨(hb1.block _ e0.lt).trans e0, (hb1.block _ e1'.lt).trans e1', (hb1.block _ e2.lt).trans e2, ⟨(hb01.cell (p := ⟨pb, poff, none⟩) hpb).trans hn, hpb⟩, hb01⟩
    have HX3 : Hid (w.heap.size + 3 ≤ w1.heap.size) := Lib.hid (by have h9 := hb1.size; rw [show (((w.alloc (.cells #[.int .i64 o.kind, .slice pa pl pc, .int .i64 o.val.kind, .bool o.val.yes, .int .i64 o.val.num, .string o.val.text, .slice oa o.val.list.length oc, .slice ob o.val.fields.length od] 50)).alloc (.cells #[.int .i64 v.kind, .bool v.yes, .int .i64 v.num, .string v.text, .slice la v.list.length lc, .slice fa v.fields.length fc] 26)).alloc (.cells #[.int .i64 0, .bool false, .int .i64 0, .string ⟨#[]⟩, .slice none 0 0, .slice none 0 0] 26)).drew.heap.size = (((w.alloc (.cells #[.int .i64 o.kind, .slice pa pl pc, .int .i64 o.val.kind, .bool o.val.yes, .int .i64 o.val.num, .string o.val.text, .slice oa o.val.list.length oc, .slice ob o.val.fields.length od] 50)).alloc (.cells #[.int .i64 v.kind, .bool v.yes, .int .i64 v.num, .string v.text, .slice la v.list.length lc, .slice fa v.fields.length fc] 26)).alloc (.cells #[.int .i64 0, .bool false, .int .i64 0, .string ⟨#[]⟩, .slice none 0 0, .slice none 0 0] 26)).heap.size from rfl, show (((w.alloc (.cells #[.int .i64 o.kind, .slice pa pl pc, .int .i64 o.val.kind, .bool o.val.yes, .int .i64 o.val.num, .string o.val.text, .slice oa o.val.list.length oc, .slice ob o.val.fields.length od] 50)).alloc (.cells #[.int .i64 v.kind, .bool v.yes, .int .i64 v.num, .string v.text, .slice la v.list.length lc, .slice fa v.fields.length fc] 26)).alloc (.cells #[.int .i64 0, .bool false, .int .i64 0, .string ⟨#[]⟩, .slice none 0 0, .slice none 0 0] 26)).heap.size = w.heap.size + 3 by simp] at h9; exact h9)
    clear hn hpb hb1 hp1 hp2 hp3 hp4 hp5
    repeat still_step
    refine wpStill_nil ?_
    obtain ⟨off', hlo, hoff⟩ := str_lo pb poff (m + 1) pk (by omega) hm
    simp only [Nat.add_sub_cancel] at hlo
    have HOFF := Lib.hid hoff
    obtain ⟨i, hi⟩ : ∃ i, i = atF v.fields n := ⟨_, rfl⟩
    obtain ⟨t, ht⟩ : ∃ t, t = isF v.fields n := ⟨_, rfl⟩
    obtain ⟨x, hx⟩ : ∃ x, x = valF v.fields n := ⟨_, rfl⟩
    rw [← hi, ← ht]
    have hi0 : i ≤ v.fields.length := by rw [hi]; exact atF_le _ _
    have hx3 : w.heap.size + 3 ≤ w1.heap.size := by have := HX3.out; omega
    have HI := Lib.hid (And.intro hi (And.intro ht (And.intro hx (And.intro hi0 hx3))))
    have HAS := Lib.hid hAS
    have hfw := V.At.below HV.out.1 hb01
    have HFW := Lib.hid hfw
    have HT : Hid (t = true → ∃ hil : i < v.fields.length, x = (v.fields[i]).2) := Lib.hid fun h => by
      obtain ⟨hil, _, hval⟩ := isF_true (n := n) (okv_iff.1 HV.out.2).1.2.2.1 (by rw [← ht]; exact h)
      simp only [← hi, ← hx] at hil hval
      exact ⟨hil, hval⟩
    have HN : Hid (t = false → x = V.null) := Lib.hid fun h => by rw [hx]; exact isF_false (by rw [← ht]; exact h)
    have HJL : Hid (i + (if t then 1 else 0) ≤ v.fields.length) := Lib.hid (by
      cases t with
      | true => obtain ⟨h, _⟩ := HT.out rfl; simp; omega
      | false => simpa using HI.out.2.2.2.1)
    rw [← ht, ← hx] at HFD
    obtain ⟨⟨v0, v1, v2, v3, v4, v5⟩, _⟩ := hAS.2.1.six
    have hl1 := hAS.2.1.lt
    have hi9 : i ≤ 90000 := by have := (okv_iff.1 HV.out.2).1.2.1; omega
    clear hi ht hx hi0 hx3 hoff hfw hAS hb01 HP HB
    go_upto_if 29 with (fail)
    go_cut [11] (fun j wx => ∃ xa xc xb xd, j = .int .i64 ((i + if t then 1 else 0 : Nat) : Int) ∧ Hid (Box wx w1.heap.size 26 #[.int .i64 x.kind, .bool x.yes, .int .i64 x.num, .string x.text, .slice xa x.list.length xc, .slice xb x.fields.length xd] ∧ AS w #[.int .i64 o.kind, .slice pa pl pc, .int .i64 o.val.kind, .bool o.val.yes, .int .i64 o.val.num, .string o.val.text, .slice oa o.val.list.length oc, .slice ob o.val.fields.length od] #[.int .i64 v.kind, .bool v.yes, .int .i64 v.num, .string v.text, .slice la v.list.length lc, .slice fa v.fields.length fc] pb poff n wx ∧ x.At wx S (.slice xa x.list.length xc) (.slice xb x.fields.length xd) ∧ Below w1.heap.size w1 wx))
    case first =>
      cases t with
      | true =>
        obtain ⟨hil, hval⟩ := HT.out rfl
        obtain ⟨b0, off0, c0', lx, fx, e0, hb0, hin, hat⟩ : ∃ b off c lx fx, Value.slice fa v.fields.length fc = .slice (some ⟨b, off, none⟩) v.fields.length c ∧ b < w1.heap.size ∧ InAt w1 b (off + i * 7) (.string (v.fields[i]).1 :: (v.fields[i]).2.cells lx fx) ∧ (v.fields[i]).2.At w1 S lx fx := by
          obtain ⟨a', c', f1, f2, f3, hl⟩ := (V.at_iff.1 HFW.out).2
          rcases hl with hl | ⟨b, off, ea, hS, hb, hc⟩
          · rw [hl] at hil; simp at hil
          · obtain ⟨lv', fv', h1, h2⟩ := hc.get hil
            exact ⟨b, off, c', lv', fv', by rw [f1, ea], hb, h1, h2⟩
        rw [← hval] at hin hat
        obtain ⟨⟨xa, xc, rfl⟩, ⟨xb, xd, rfl⟩, _, _⟩ := hat.is.len
        obtain ⟨p0, p1, p2, p3, p4, p5, p6⟩ := hin.seven
        injection e0 with e1 _ e3
        rw [e1] at v5
        have hii : (i : Int) < (v.fields.length : Int) := by omega
        have hA : Below w1.heap.size w1 (w1.alloc (.cells #[.int .i64 x.kind, .bool x.yes, .int .i64 x.num, .string x.text, .slice xa x.list.length xc, .slice xb x.fields.length xd] 26)) := (Below.refl _ w1).alloc (Nat.le_refl _) _
        have HM : Hid (Box (w1.alloc (.cells #[.int .i64 x.kind, .bool x.yes, .int .i64 x.num, .string x.text, .slice xa x.list.length xc, .slice xb x.fields.length xd] 26)) w1.heap.size 26 #[.int .i64 x.kind, .bool x.yes, .int .i64 x.num, .string x.text, .slice xa x.list.length xc, .slice xb x.fields.length xd] ∧ AS w #[.int .i64 o.kind, .slice pa pl pc, .int .i64 o.val.kind, .bool o.val.yes, .int .i64 o.val.num, .string o.val.text, .slice oa o.val.list.length oc, .slice ob o.val.fields.length od] #[.int .i64 v.kind, .bool v.yes, .int .i64 v.num, .string v.text, .slice la v.list.length lc, .slice fa v.fields.length fc] pb poff n (w1.alloc (.cells #[.int .i64 x.kind, .bool x.yes, .int .i64 x.num, .string x.text, .slice xa x.list.length xc, .slice xb x.fields.length xd] 26)) ∧ x.At (w1.alloc (.cells #[.int .i64 x.kind, .bool x.yes, .int .i64 x.num, .string x.text, .slice xa x.list.length xc, .slice xb x.fields.length xd] 26)) S (.slice xa x.list.length xc) (.slice xb x.fields.length xd) ∧ Below w1.heap.size w1 (w1.alloc (.cells #[.int .i64 x.kind, .bool x.yes, .int .i64 x.num, .string x.text, .slice xa x.list.length xc, .slice xb x.fields.length xd] 26))) := Lib.hid ⟨Box.new w1 _ _, HAS.out.below hA, hat.below hA, hA⟩
        clear p0 hval hin hat hA e1 e3 HFD HFW HV HT HN HAS
        go_wp2
        go_meet
        exact ⟨xa, xc, xb, xd, by first | (go_num; done) | (simp; done) | (simp; omega), HM⟩
      | false =>
        have hval := HN.out rfl
        have hA : Below w1.heap.size w1 (w1.alloc (.cells #[.int .i64 0, .bool false, .int .i64 0, .string ⟨#[]⟩, .slice none 0 0, .slice none 0 0] 26)) := (Below.refl _ w1).alloc (Nat.le_refl _) _
        have HM : Hid (∃ xa xc xb xd, Box (w1.alloc (.cells #[.int .i64 0, .bool false, .int .i64 0, .string ⟨#[]⟩, .slice none 0 0, .slice none 0 0] 26)) w1.heap.size 26 #[.int .i64 x.kind, .bool x.yes, .int .i64 x.num, .string x.text, .slice xa x.list.length xc, .slice xb x.fields.length xd] ∧ AS w #[.int .i64 o.kind, .slice pa pl pc, .int .i64 o.val.kind, .bool o.val.yes, .int .i64 o.val.num, .string o.val.text, .slice oa o.val.list.length oc, .slice ob o.val.fields.length od] #[.int .i64 v.kind, .bool v.yes, .int .i64 v.num, .string v.text, .slice la v.list.length lc, .slice fa v.fields.length fc] pb poff n (w1.alloc (.cells #[.int .i64 0, .bool false, .int .i64 0, .string ⟨#[]⟩, .slice none 0 0, .slice none 0 0] 26)) ∧ x.At (w1.alloc (.cells #[.int .i64 0, .bool false, .int .i64 0, .string ⟨#[]⟩, .slice none 0 0, .slice none 0 0] 26)) S (.slice xa x.list.length xc) (.slice xb x.fields.length xd) ∧ Below w1.heap.size w1 (w1.alloc (.cells #[.int .i64 0, .bool false, .int .i64 0, .string ⟨#[]⟩, .slice none 0 0, .slice none 0 0] 26))) := Lib.hid ⟨none, 0, none, 0, by rw [hval]; exact Box.new w1 _ _, HAS.out.below hA, by rw [hval]; exact none_at _ _ V.null rfl rfl, hA⟩
        clear hval hA HFD HFW HV HT HN HAS
        go_wp2
        go_meet
        obtain ⟨xa, xc, xb, xd, h⟩ := HM.out
        exact ⟨xa, xc, xb, xd, by simp, Lib.hid h⟩
    case rest =>
      clear v0 v1 v2 v3 v4 v5 hl1
      obtain ⟨xa, xc, xb, xd, rfl, HC⟩ := hcut
      obtain ⟨hxb, has, hxat, hbc⟩ := HC.out
      obtain ⟨jn, hj⟩ : ∃ jn, jn = i + if t then 1 else 0 := ⟨_, rfl⟩
      rw [← hj]
      have HJ := Lib.hid hj
      have hcall := HFD.out wc.drew xa xc xb xd off' has.2.2.2.2.drew (V.At.drew hxat) (fun h => HOFF.out (by omega))
      have HCALL := Lib.hid hcall
      have HW2 : Hid (∀ w2, Below wc.drew.heap.size wc.drew w2 → Box w2 w1.heap.size 26 #[.int .i64 x.kind, .bool x.yes, .int .i64 x.num, .string x.text, .slice xa x.list.length xc, .slice xb x.fields.length xd] ∧ AS w #[.int .i64 o.kind, .slice pa pl pc, .int .i64 o.val.kind, .bool o.val.yes, .int .i64 o.val.num, .string o.val.text, .slice oa o.val.list.length oc, .slice ob o.val.fields.length od] #[.int .i64 v.kind, .bool v.yes, .int .i64 v.num, .string v.text, .slice la v.list.length lc, .slice fa v.fields.length fc] pb poff n w2 ∧ w1.heap.size < wc.heap.size) := Lib.hid fun w2 hb2 =>
        ⟨(hb2.block _ hxb.lt).trans hxb, has.below ((Below.refl _ wc).drew.trans hb2), hxb.lt⟩
      obtain ⟨o0, o1, o2, o3, o4, o5, o6, o7⟩ := has.1.eight
      have hl0 := has.1.lt
      obtain ⟨⟨x0, x1, x2, x3, x4, x5⟩, _⟩ := hxb.six
      have hxl := hxb.lt
      clear hcall hj hxb has hxat hbc HFD HT HN HC HFW HAS HOFF
      go_upto_region 9 with (fail)
      go_cut [12, 13] (fun s c wx => ∃ st ec, s = .bool st ∧ c = .int .i64 ec ∧ Hid (R2 r (fun q => S q ∨ w.heap.size + 3 ≤ q) w1.heap.size st ec wx ∧ AS w #[.int .i64 o.kind, .slice pa pl pc, .int .i64 o.val.kind, .bool o.val.yes, .int .i64 o.val.num, .string o.val.text, .slice oa o.val.list.length oc, .slice ob o.val.fields.length od] #[.int .i64 v.kind, .bool v.yes, .int .i64 v.num, .string v.text, .slice la v.list.length lc, .slice fa v.fields.length fc] pb poff n wx))
      case first =>
        cases r with
        | error c =>
          go_region_with ((go_at_call 64; refine HCALL.out.mono ?_; rintro e w2 ⟨hb2, hc0, bb, rfl⟩; obtain ⟨hxb2, has2, hlt2⟩ := HW2.out w2 hb2; have HR := Lib.hid (show R2 (.error c) (fun q => S q ∨ w.heap.size + 3 ≤ q) w1.heap.size bb c (sets w2 w1.heap.size 0 [.int .i64 0, .bool false, .int .i64 0, .string ⟨#[]⟩, .slice none 0 0, .slice none 0 0]) ∧ AS w #[.int .i64 o.kind, .slice pa pl pc, .int .i64 o.val.kind, .bool o.val.yes, .int .i64 o.val.num, .string o.val.text, .slice oa o.val.list.length oc, .slice ob o.val.fields.length od] #[.int .i64 v.kind, .bool v.yes, .int .i64 v.num, .string v.text, .slice la v.list.length lc, .slice fa v.fields.length fc] pb poff n (sets w2 w1.heap.size 0 [.int .i64 0, .bool false, .int .i64 0, .string ⟨#[]⟩, .slice none 0 0, .slice none 0 0]) from ⟨⟨rfl, hc0⟩, has2.sets HI.out.2.2.2.2 _⟩); obtain ⟨⟨z0, z1, z2, z3, z4, z5⟩, s0, s1, s2, s3, s4, s5⟩ := hxb2.six; have hxl2 := hxb2.lt; clear hb2 hxb2 has2))
          all_goals
            go_wp2_with fail
            go_meet
            exact ⟨_, _, rfl, rfl, HR⟩
        | ok y =>
          cases y with
          | none =>
            go_region_with ((go_at_call 64; refine HCALL.out.mono ?_; rintro e w2 ⟨hb2, rfl⟩; obtain ⟨hxb2, has2, hlt2⟩ := HW2.out w2 hb2; have HR := Lib.hid (show R2 (.ok none) (fun q => S q ∨ w.heap.size + 3 ≤ q) w1.heap.size false 0 (sets w2 w1.heap.size 0 [.int .i64 0, .bool false, .int .i64 0, .string ⟨#[]⟩, .slice none 0 0, .slice none 0 0]) ∧ AS w #[.int .i64 o.kind, .slice pa pl pc, .int .i64 o.val.kind, .bool o.val.yes, .int .i64 o.val.num, .string o.val.text, .slice oa o.val.list.length oc, .slice ob o.val.fields.length od] #[.int .i64 v.kind, .bool v.yes, .int .i64 v.num, .string v.text, .slice la v.list.length lc, .slice fa v.fields.length fc] pb poff n (sets w2 w1.heap.size 0 [.int .i64 0, .bool false, .int .i64 0, .string ⟨#[]⟩, .slice none 0 0, .slice none 0 0]) from ⟨⟨rfl, rfl⟩, has2.sets HI.out.2.2.2.2 _⟩); obtain ⟨⟨z0, z1, z2, z3, z4, z5⟩, s0, s1, s2, s3, s4, s5⟩ := hxb2.six; have hxl2 := hxb2.lt; clear hb2 hxb2 has2))
            all_goals
              go_wp2_with fail
              go_meet
              exact ⟨_, _, rfl, rfl, HR⟩
          | some y =>
            go_region_with ((go_at_call 64; refine HCALL.out.mono ?_; rintro e w2 ⟨hb2, ya, yc, yb, yd, rfl, hyat⟩; obtain ⟨hxb2, has2, hlt2⟩ := HW2.out w2 hb2; have HR := Lib.hid (show R2 (.ok (some y)) (fun q => S q ∨ w.heap.size + 3 ≤ q) w1.heap.size true 0 (sets w2 w1.heap.size 0 [.int .i64 y.kind, .bool y.yes, .int .i64 y.num, .string y.text, .slice ya y.list.length yc, .slice yb y.fields.length yd]) ∧ AS w #[.int .i64 o.kind, .slice pa pl pc, .int .i64 o.val.kind, .bool o.val.yes, .int .i64 o.val.num, .string o.val.text, .slice oa o.val.list.length oc, .slice ob o.val.fields.length od] #[.int .i64 v.kind, .bool v.yes, .int .i64 v.num, .string v.text, .slice la v.list.length lc, .slice fa v.fields.length fc] pb poff n (sets w2 w1.heap.size 0 [.int .i64 y.kind, .bool y.yes, .int .i64 y.num, .string y.text, .slice ya y.list.length yc, .slice yb y.fields.length yd]) from ⟨⟨rfl, rfl, ya, yc, yb, yd, box_sets6 hxb2 _ _ _ _ _ _, at_ends hyat (fun q hq => by have h3 := HI.out.2.2.2.2; rcases hq with hq | hq; have h5 := HSS.out q hq; exact ⟨by omega, .inl hq⟩; exact ⟨by have h4 : wc.drew.heap.size = wc.heap.size := rfl; omega, .inr (by have h4 : wc.drew.heap.size = wc.heap.size := rfl; omega)⟩) _⟩, has2.sets HI.out.2.2.2.2 _⟩); obtain ⟨⟨z0, z1, z2, z3, z4, z5⟩, s0, s1, s2, s3, s4, s5⟩ := hxb2.six; have hxl2 := hxb2.lt; clear hb2 hxb2 has2 hyat))
            all_goals
              go_wp2_with fail
              go_meet
              exact ⟨_, _, rfl, rfl, HR⟩
      case rest =>
        clear o0 o1 o2 o3 o4 o5 o6 o7 hl0 x0 x1 x2 x3 x4 x5 hxl HCALL HW2
        obtain ⟨st, ec, rfl, rfl, HC⟩ := hcut
        obtain ⟨hr2, has⟩ := HC.out
        have HAS := Lib.hid has
        obtain ⟨⟨v0, v1, v2, v3, v4, v5⟩, fv0, fv1, fv2, fv3, fv4, fv5⟩ := has.2.1.six
        have hl1 := has.2.1.lt
        obtain ⟨⟨z0, z1, z2, z3, z4, z5⟩, s0, s1, s2, s3, s4, s5⟩ := has.2.2.1.six
        have hl2 := has.2.2.1.lt
        have hge : w.heap.size ≤ w.heap.size + 1 + 1 := by omega
        cases r with
        | error c =>
          obtain ⟨rfl, hc0⟩ := hr2
          have g2 : (ec != 0) = true := by simp [hc0]
          obtain ⟨k0, k1, k2, k3, k4, k5⟩ := box_ends (c0 := .int .i64 0) (c1 := .bool false) (c2 := .int .i64 0) (c3 := .string ⟨#[]⟩) (c4 := .slice none 0 0) (c5 := .slice none 0 0) has.2.2.1
          simp only [sets, Nat.zero_add, Nat.reduceAdd] at k0 k1 k2 k3 k4 k5
          have HO : Hid (ResP ((Except.error ec : Except Int (Option V)).map fun y => v.setF (putV v.fields n y)) S w (.returned (.tuple #[.agg #[.int .i64 0, .bool false, .int .i64 0, .string ⟨#[]⟩, .slice none 0 0, .slice none 0 0], .int .i64 ec])) (sets wc (w.heap.size + 1 + 1) 0 [.int .i64 0, .bool false, .int .i64 0, .string ⟨#[]⟩, .slice none 0 0, .slice none 0 0])) := Lib.hid ⟨below_ends has.2.2.2.2 hge _, hc0, rfl⟩
          clear hc0 has hge HC HAS
          go_wp2
          refine bodyPost_ret (v := .tuple #[.agg #[.int .i64 0, .bool false, .int .i64 0, .string ⟨#[]⟩, .slice none 0 0, .slice none 0 0], .int .i64 ec]) (by simp [results, Try.results43, go_sem, k0, k1, k2, k3, k4, k5]) rfl HO.out
        | ok y0 =>
          have hec : ec = 0 := by
            cases y0 with
            | none => exact hr2.2
            | some y => exact hr2.2.1
          subst hec
          -- the fields ahead of the name
          have hfat := (V.at_iff.1 (V.At.below HV.out.1 has.2.2.2.2)).2
          obtain ⟨hfl, hfn, hsrc⟩ := src_of hfat
          have hilen : i ≤ v.fields.length := HI.out.2.2.2.1
          have hjlen : jn ≤ v.fields.length := by rw [HJ.out]; exact HJL.out
          have hhi := fld_hi fa v.fields.length fc i (by omega) (fun e => by have := hfn e; rw [this] at hilen; simp at hilen; exact hilen)
          obtain ⟨fa2, hlo2, hfa2⟩ := fld_lo fa v.fields.length fc jn hjlen hfl (fun e => by rw [hfn e]; rfl)
          have htl : (v.fields.take i).length = i := by rw [List.length_take]; omega
          have hcl := cloneF_any (w := wc) (P := fun q => S q ∨ (w.heap.size + 3 ≤ q ∧ q < wc.heap.size)) (fun q hq => hq.elim (fun h => Nat.lt_of_lt_of_le (HSS.out q h) has.2.2.2.2.size) (fun h => h.2)) (rows := v.fields.take i) (sa := fa) (sc := fc) (by rw [htl]; omega) (by
            rcases hsrc with h | ⟨b, off, e, hlt, hs⟩
            · exact .inl (by rw [h, List.take_nil])
            · exact .inr ⟨b, off, e, hlt, (hs.take i).wider fun q hq => .inl hq⟩)
          rw [htl] at hcl
          have HCL := Lib.hid hcl
          have HSRC := Lib.hid (And.intro hsrc (And.intro hfa2 (And.intro hilen hjlen)))
          have HR2 := Lib.hid hr2
          have hw3 : w.heap.size + 3 ≤ wc.heap.size := has.size
          have HW3 := Lib.hid hw3
          have HPB : Hid (∀ q, (fun q => S q ∨ (w.heap.size + 3 ≤ q ∧ q < wc.heap.size)) q → q < wc.heap.size) := Lib.hid fun q hq => hq.elim (fun h => Nat.lt_of_lt_of_le (HSS.out q h) has.2.2.2.2.size) (fun h => h.2)
          have HTL := Lib.hid htl
          clear hcl hsrc hfa2 hilen hjlen hfl hfn hfat htl has hge HC hr2 hw3
          go_wp2_with fail
          refine HCL.out.mono ?_
          rintro e w4 ⟨fv, rfl, hgr, hb4⟩
          obtain ⟨ga, gc, rfl, _, _⟩ := hgr.form
          rw [HTL.out] at hgr ⊢
          have has4 := HAS.out.below hb4
          have hsr4 : v.fields = [] ∨ ∃ b off, fa = some ⟨b, off, none⟩ ∧ b < wc.heap.size ∧ SrcAt w4 (fun q => S q ∨ (w.heap.size + 3 ≤ q ∧ q < wc.heap.size)) b off v.fields := HSRC.out.1.imp id fun ⟨b, off, e, hlt, hs⟩ => ⟨b, off, e, hlt, (hs.wider fun q hq => .inl hq).belowB hlt HPB.out hb4⟩
          have hz4 := hb4.size
          clear v0 v1 v2 v3 v4 v5 fv0 fv1 fv2 fv3 fv4 fv5 hl1 z0 z1 z2 z3 z4 z5 s0 s1 s2 s3 s4 s5 hl2
          cases y0 with
          | none =>
            obtain ⟨rfl, _⟩ := HR2.out
            have hrows : v.fields.take i ++ v.fields.drop jn = putV v.fields n none := by rw [HJ.out, HI.out.1, HI.out.2.1]; unfold putV; simp
            obtain ⟨rows5, hr5⟩ : ∃ rows5, rows5 = v.fields.take i := ⟨_, rfl⟩
            have hrl : rows5.length = i := by rw [hr5]; exact HTL.out
            rw [← hr5] at hgr hrows
            have hgr5 := hgr
            have has5 := has4
            have hsr5 := hsr4
            have hz5 := hz4
            have hnl9 : rows5.length ≤ 90001 := by rw [hrl]; omega
            have hL9 : v.fields.length ≤ 90000 := by have := (okv_iff.1 HV.out.2).1.2.1; omega
            clear hr5 hb4 hgr has4 hsr4 hz4
            obtain ⟨v6, w6, hr6, hgr6, hb6⟩ := app_flds (rows2 := v.fields.drop jn) (sa := fa2) (sc := fc - jn) HPB.out hgr5 (by have h1 := HI.out.2.2.2.1; have h2 := hnl9; omega) (by rw [List.length_drop]; have h1 := hL9; omega) hz5 (by
              rcases hsr5 with h | ⟨b, off, e, hlt, hs⟩
              · exact .inl (by rw [h, List.drop_nil])
              · by_cases hj : jn < v.fields.length
                · exact .inr ⟨b, off + jn * 7, HSRC.out.2.1 b off e hj, hs.drop jn⟩
                · exact .inl (List.drop_eq_nil_iff.2 (by omega))) 22
            rw [List.length_drop] at hr6
            rw [hrows] at hgr6
            obtain ⟨ma, mc, rfl, _, _⟩ := hgr6.form
            obtain ⟨ml, hml⟩ : ∃ ml, ml = (putV v.fields n none).length := ⟨_, rfl⟩
            rw [← hml] at hr6 hgr6
            have has6 := has5.belowB HW3.out hb6
            obtain ⟨⟨c0, c1, c2, c3, c4, c5⟩, _⟩ := has5.2.1.six
            have hl5 := has5.2.1.lt
            obtain ⟨⟨d0, d1, d2, d3, d4, d5⟩, f0, f1, f2, f3, f4, f5⟩ := has6.2.1.six
            have hl6 := has6.2.1.lt
            obtain ⟨⟨z0, z1, z2, z3, z4, z5⟩, s0, s1, s2, s3, s4, s5⟩ := has6.2.2.1.six
            have hl7 := has6.2.2.1.lt
            have hb7 : Box (sets w6 (w.heap.size + 1) 5 [.slice ma ml mc]) (w.heap.size + 1 + 1) 26 #[.int .i64 0, .bool false, .int .i64 0, .string ⟨#[]⟩, .slice none 0 0, .slice none 0 0] := (sets_far _ _ _ _ (by omega)).trans has6.2.2.1
            obtain ⟨k0, k1, k2, k3, k4, k5⟩ := box_ends (c0 := .int .i64 v.kind) (c1 := .bool v.yes) (c2 := .int .i64 v.num) (c3 := .string v.text) (c4 := .slice la v.list.length lc) (c5 := .slice ma ml mc) hb7
            simp only [sets, Nat.zero_add, Nat.reduceAdd] at k0 k1 k2 k3 k4 k5
            have hfar : ∀ q, q ≠ w.heap.size + 1 → q ≠ w.heap.size + 1 + 1 → (sets (sets w6 (w.heap.size + 1) 5 [.slice ma ml mc]) (w.heap.size + 1 + 1) 0 [.int .i64 v.kind, .bool v.yes, .int .i64 v.num, .string v.text, .slice la v.list.length lc, .slice ma ml mc]).heap[q]? = w6.heap[q]? := fun q h1 h2 => (sets_far _ _ _ _ h2).trans (sets_far _ _ _ _ h1)
            have hsz : (sets (sets w6 (w.heap.size + 1) 5 [.slice ma ml mc]) (w.heap.size + 1 + 1) 0 [.int .i64 v.kind, .bool v.yes, .int .i64 v.num, .string v.text, .slice la v.list.length lc, .slice ma ml mc]).heap.size = w6.heap.size := by rw [sets_size, sets_size]
            have hbF : Below w.heap.size w (sets (sets w6 (w.heap.size + 1) 5 [.slice ma ml mc]) (w.heap.size + 1 + 1) 0 [.int .i64 v.kind, .bool v.yes, .int .i64 v.num, .string v.text, .slice la v.list.length lc, .slice ma ml mc]) := Below.sets _ 0 (Below.sets _ 5 has6.2.2.2.2 (by omega)) (by omega)
            have hlat := (V.at_iff.1 HV.out.1).1
            have HO : Hid (ResP ((Except.ok none : Except Int (Option V)).map fun y => v.setF (putV v.fields n y)) S w (.returned (.tuple #[.agg #[.int .i64 v.kind, .bool v.yes, .int .i64 v.num, .string v.text, .slice la v.list.length lc, .slice ma ml mc], .int .i64 0])) (sets (sets w6 (w.heap.size + 1) 5 [.slice ma ml mc]) (w.heap.size + 1 + 1) 0 [.int .i64 v.kind, .bool v.yes, .int .i64 v.num, .string v.text, .slice la v.list.length lc, .slice ma ml mc])) := Lib.hid ⟨hbF, la, lc, ma, mc, by rw [hml]; rfl, V.at_iff.2 ⟨LAt.move (fun q hq _ => ⟨.inl hq, hbF.block q (HSS.out q hq)⟩) hbF.size hlat, by
              have h9 := hgr6.atP (S := fun q => S q ∨ w.heap.size + 3 ≤ q) (fun q hq => hq.imp id fun h => h.1) (fun q hq => .inr (Nat.le_trans HW3.out hq))
              rw [hml] at h9
              exact FAt.move (fun q hq _ => hq.elim (fun h => ⟨.inl h, hfar q (by have := HSS.out q h; omega) (by have := HSS.out q h; omega)⟩) (fun h => ⟨.inr (by omega), hfar q (by omega) (by omega)⟩)) (by rw [hsz]; exact Nat.le_refl _) h9⟩⟩
            clear hb7 hfar hsz hbF hlat hgr6 hgr5 hb6 has6 has5 hsr5 hz5 hrows hrl hml hnl9 hL9 HV HSRC HR2 HW3 HPB HAS HCL HJL HX3 HJ HI
            go_wp2_with (first
              | (at_builtin; refine Lib.wpList_append_run _ rfl _ _ _ _ rfl _ _ rfl rfl _ _ hr6 ?_)
              | fail)
            refine bodyPost_ret (v := .tuple #[.agg #[.int .i64 v.kind, .bool v.yes, .int .i64 v.num, .string v.text, .slice la v.list.length lc, .slice ma ml mc], .int .i64 0]) (by simp [results, Try.results43, go_sem, k0, k1, k2, k3, k4, k5]) rfl HO.out
          | some y =>
            obtain ⟨rfl, _, ya, yc, yb, yd, hyb, hyat⟩ := HR2.out
            have hyb4 : Box w4 w1.heap.size 26 #[.int .i64 y.kind, .bool y.yes, .int .i64 y.num, .string y.text, .slice ya y.list.length yc, .slice yb y.fields.length yd] := (hb4.block _ hyb.lt).trans hyb
            have hyat4 : y.At w4 (fun q => S q ∨ (w.heap.size + 3 ≤ q ∧ q < wc.heap.size)) (.slice ya y.list.length yc) (.slice yb y.fields.length yd) := V.At.move (fun q hq hlt => ⟨hq.imp id fun h => ⟨h, hlt⟩, hb4.block q hlt⟩) hb4.size _ (Nat.le_refl _) hyat
            have hA4 : Below w4.heap.size w4 (w4.drew.alloc (.cells #[.string n, .int .i64 y.kind, .bool y.yes, .int .i64 y.num, .string y.text, .slice ya y.list.length yc, .slice yb y.fields.length yd] 30)) := ((Below.refl _ w4).drew).alloc (Nat.le_refl _) _
            have hsy : SrcAt (w4.drew.alloc (.cells #[.string n, .int .i64 y.kind, .bool y.yes, .int .i64 y.num, .string y.text, .slice ya y.list.length yc, .slice yb y.fields.length yd] 30)) (fun q => S q ∨ (w.heap.size + 3 ≤ q ∧ q < wc.heap.size)) w4.heap.size 0 [(n, y)] := fun j hj => by
              obtain rfl : j = 0 := by simp at hj; omega
              refine ⟨.slice ya y.list.length yc, .slice yb y.fields.length yd, fun q u hq => ?_, hyat4.below hA4⟩
              have h9 := Box.cell (i := q) (Box.new w4.drew 30 #[.string n, .int .i64 y.kind, .bool y.yes, .int .i64 y.num, .string y.text, .slice ya y.list.length yc, .slice yb y.fields.length yd])
              rw [Nat.zero_mul, Nat.zero_add]
              exact h9.trans (show (fcells (n, y) (.slice ya y.list.length yc) (.slice yb y.fields.length yd)).toArray[q]? = some u by rw [List.getElem?_toArray]; exact hq)
            obtain ⟨v5, w5, hr5, hgr5, hb5⟩ := app_flds (rows2 := [(n, y)]) (sa := some ⟨w4.heap.size, 0, none⟩) (sc := 1) HPB.out (hgr.below hA4) (by rw [HTL.out]; have := HI.out.2.2.2.1; omega) (by simp) (Nat.le_trans hz4 hA4.size) (.inr ⟨_, _, rfl, hsy⟩) 22
            have hrows : (v.fields.take i ++ [(n, y)]) ++ v.fields.drop jn = putV v.fields n (some y) := by rw [HJ.out, HI.out.1, HI.out.2.1]; unfold putV; simp
            obtain ⟨rows5, hq5⟩ : ∃ rows5, rows5 = v.fields.take i ++ [(n, y)] := ⟨_, rfl⟩
            rw [← hq5] at hgr5 hrows
            have hq6 : rows5.length = i + 1 := by rw [hq5, List.length_append, HTL.out]; rfl
            obtain ⟨na, nc, rfl, _, _⟩ := hgr5.form
            obtain ⟨nl, hrl⟩ : ∃ nl, rows5.length = nl := ⟨_, rfl⟩
            rw [hrl] at hr5 hgr5
            simp only [List.length_singleton] at hr5
            change (Builtin.append_ #[22, 22] 22 #[.slice ga i gc, .slice (some ⟨w4.heap.size, 0, none⟩) 1 1]).run Try.prog (w4.alloc (.cells #[.string n, .int .i64 y.kind, .bool y.yes, .int .i64 y.num, .string y.text, .slice ya y.list.length yc, .slice yb y.fields.length yd] 30)).drew = .ok (.slice na nl nc) w5 at hr5
            have has5 := (has4.below hA4).belowB HW3.out hb5
            have hsr5 : v.fields = [] ∨ ∃ b off, fa = some ⟨b, off, none⟩ ∧ b < wc.heap.size ∧ SrcAt w5 (fun q => S q ∨ (w.heap.size + 3 ≤ q ∧ q < wc.heap.size)) b off v.fields := hsr4.imp id fun ⟨b, off, e, hlt, hs⟩ => ⟨b, off, e, hlt, ((hs.below (Nat.lt_of_lt_of_le hlt hz4) (fun _ h => h) hA4).belowB hlt HPB.out hb5)⟩
            have hz5 : wc.heap.size ≤ w5.heap.size := Nat.le_trans (Nat.le_trans hz4 hA4.size) hb5.size
            have hnl9 : rows5.length ≤ 90001 := by rw [hq6]; omega
            have hL9 : v.fields.length ≤ 90000 := by have := (okv_iff.1 HV.out.2).1.2.1; omega
            have hn4 := has4.2.2.2.1.1
            have hpl4 : pb < w4.heap.size := Nat.lt_of_lt_of_le has4.2.2.2.1.2 has4.2.2.2.2.size
            obtain ⟨⟨x0, x1, x2, x3, x4, x5⟩, _⟩ := hyb4.six
            have hxl4 := hyb4.lt
            clear hq5 hq6 hsy hA4 hyat4 hyb4 hyat hyb hb4 hgr has4 hsr4 hz4 hb5
            obtain ⟨v6, w6, hr6, hgr6, hb6⟩ := app_flds (rows2 := v.fields.drop jn) (sa := fa2) (sc := fc - jn) HPB.out hgr5 (by have h1 := HI.out.2.2.2.1; have h2 := hnl9; omega) (by rw [List.length_drop]; have h1 := hL9; omega) hz5 (by
              rcases hsr5 with h | ⟨b, off, e, hlt, hs⟩
              · exact .inl (by rw [h, List.drop_nil])
              · by_cases hj : jn < v.fields.length
                · exact .inr ⟨b, off + jn * 7, HSRC.out.2.1 b off e hj, hs.drop jn⟩
                · exact .inl (List.drop_eq_nil_iff.2 (by omega))) 22
            rw [List.length_drop] at hr6
            rw [hrows] at hgr6
            obtain ⟨ma, mc, rfl, _, _⟩ := hgr6.form
            obtain ⟨ml, hml⟩ : ∃ ml, ml = (putV v.fields n (some y)).length := ⟨_, rfl⟩
            rw [← hml] at hr6 hgr6
            have has6 := has5.belowB HW3.out hb6
            obtain ⟨⟨c0, c1, c2, c3, c4, c5⟩, _⟩ := has5.2.1.six
            have hl5 := has5.2.1.lt
            obtain ⟨⟨d0, d1, d2, d3, d4, d5⟩, f0, f1, f2, f3, f4, f5⟩ := has6.2.1.six
            have hl6 := has6.2.1.lt
            obtain ⟨⟨z0, z1, z2, z3, z4, z5⟩, s0, s1, s2, s3, s4, s5⟩ := has6.2.2.1.six
            have hl7 := has6.2.2.1.lt
            have hb7 : Box (sets w6 (w.heap.size + 1) 5 [.slice ma ml mc]) (w.heap.size + 1 + 1) 26 #[.int .i64 0, .bool false, .int .i64 0, .string ⟨#[]⟩, .slice none 0 0, .slice none 0 0] := (sets_far _ _ _ _ (by omega)).trans has6.2.2.1
            obtain ⟨k0, k1, k2, k3, k4, k5⟩ := box_ends (c0 := .int .i64 v.kind) (c1 := .bool v.yes) (c2 := .int .i64 v.num) (c3 := .string v.text) (c4 := .slice la v.list.length lc) (c5 := .slice ma ml mc) hb7
            simp only [sets, Nat.zero_add, Nat.reduceAdd] at k0 k1 k2 k3 k4 k5
            have hfar : ∀ q, q ≠ w.heap.size + 1 → q ≠ w.heap.size + 1 + 1 → (sets (sets w6 (w.heap.size + 1) 5 [.slice ma ml mc]) (w.heap.size + 1 + 1) 0 [.int .i64 v.kind, .bool v.yes, .int .i64 v.num, .string v.text, .slice la v.list.length lc, .slice ma ml mc]).heap[q]? = w6.heap[q]? := fun q h1 h2 => (sets_far _ _ _ _ h2).trans (sets_far _ _ _ _ h1)
            have hsz : (sets (sets w6 (w.heap.size + 1) 5 [.slice ma ml mc]) (w.heap.size + 1 + 1) 0 [.int .i64 v.kind, .bool v.yes, .int .i64 v.num, .string v.text, .slice la v.list.length lc, .slice ma ml mc]).heap.size = w6.heap.size := by rw [sets_size, sets_size]
            have hbF : Below w.heap.size w (sets (sets w6 (w.heap.size + 1) 5 [.slice ma ml mc]) (w.heap.size + 1 + 1) 0 [.int .i64 v.kind, .bool v.yes, .int .i64 v.num, .string v.text, .slice la v.list.length lc, .slice ma ml mc]) := Below.sets _ 0 (Below.sets _ 5 has6.2.2.2.2 (by omega)) (by omega)
            have hlat := (V.at_iff.1 HV.out.1).1
            have HO : Hid (ResP ((Except.ok (some y) : Except Int (Option V)).map fun y => v.setF (putV v.fields n y)) S w (.returned (.tuple #[.agg #[.int .i64 v.kind, .bool v.yes, .int .i64 v.num, .string v.text, .slice la v.list.length lc, .slice ma ml mc], .int .i64 0])) (sets (sets w6 (w.heap.size + 1) 5 [.slice ma ml mc]) (w.heap.size + 1 + 1) 0 [.int .i64 v.kind, .bool v.yes, .int .i64 v.num, .string v.text, .slice la v.list.length lc, .slice ma ml mc])) := Lib.hid ⟨hbF, la, lc, ma, mc, by rw [hml]; rfl, V.at_iff.2 ⟨LAt.move (fun q hq _ => ⟨.inl hq, hbF.block q (HSS.out q hq)⟩) hbF.size hlat, by
              have h9 := hgr6.atP (S := fun q => S q ∨ w.heap.size + 3 ≤ q) (fun q hq => hq.imp id fun h => h.1) (fun q hq => .inr (Nat.le_trans HW3.out hq))
              rw [hml] at h9
              exact FAt.move (fun q hq _ => hq.elim (fun h => ⟨.inl h, hfar q (by have := HSS.out q h; omega) (by have := HSS.out q h; omega)⟩) (fun h => ⟨.inr (by omega), hfar q (by omega) (by omega)⟩)) (by rw [hsz]; exact Nat.le_refl _) h9⟩⟩
            clear hb7 hfar hsz hbF hlat hgr6 hgr5 hb6 has6 has5 hsr5 hz5 hrows hrl hml hnl9 hL9 HV HSRC HR2 HW3 HPB HAS HCL HJL HX3 HJ HI
            go_wp2_with fail
            go_region_with fail
            all_goals
              go_wp2_with (first
                | (at_builtin; refine Lib.wpList_append_run _ rfl _ _ _ _ rfl _ _ rfl rfl _ _ hr6 ?_)
                | fail)
              refine bodyPost_ret (v := .tuple #[.agg #[.int .i64 v.kind, .bool v.yes, .int .i64 v.num, .string v.text, .slice la v.list.length lc, .slice ma ml mc], .int .i64 0]) (by simp [results, Try.results43, go_sem, k0, k1, k2, k3, k4, k5]) rfl HO.out
  · rw [if_pos hk5]
    have g1 : (v.kind != 5) = true := by simp [hk5]
    have HB := Lib.hid hb3
    clear hb3 hfield hv hok
    go_enter Try.func43, Try.ntmps43
    go_wp2
    refine bodyPost_ret (v := .tuple #[.agg #[.int .i64 0, .bool false, .int .i64 0, .string ⟨#[]⟩, .slice none 0 0, .slice none 0 0], .int .i64 5]) (by simp [results, Try.results43, go_sem]) rfl ⟨HB.out, by decide, rfl⟩

end Go.Proofs.Ytljhcnlifdmacaa
end
