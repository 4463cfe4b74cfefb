/-
  What patch's operations make of values: plain facts, nothing of the program.
  Fields appended to a row of fields: to one that the call owns, or to an empty slice with no room.
  patch.add.
  patch.place: where a field of a name is, or belongs: slices.BinarySearchFunc at fields, by hand.
  patch: a copy of fields; Op.field at the end of a path.
  patch: Op.along, given what Op.field does with the field.
  patch: Op.along along whatever path; Op.fits, Op.Right, patch.clone.
  patch: Op.fits, Op.Right, clone.
  patch: check; Apply.
  patch.Apply.
  Plain facts for mailbaglaw08.PatchTwice.
  mailbaglaw08.head.
  The walk of mailbaglaw08.PatchTwice.
-/
import Derived.Test.YtcocljgafhpdaaaVFew
import Derived.Test.YtcocljgafhpdaaaVClone
import Derived.Test.YtcocljgafhpdaaaVGet2
import Derived.Test.YtcocljgafhpdaaaPTwA
import Derived.WalkKit
import Derived.Test.YtcocljgafhpdaaaValHead
import Derived.Test.YtcocljgafhpdaaaValCmp
import Derived.Test.YtcocljgafhpdaaaVSame
import Derived.Test.YtcocljgafhpdaaaVCmpLaws
import Derived.Laws.Cover3
import Derived.Test.YtcocljgafhpdaaaMid
import Derived.Deep.RegionWith
import Derived.Deep.CutRange
import Derived.Deep.DeepCutAuto
import Derived.Deep.RegionHeld3
import Derived.Outline
import Derived.Test.YtcocljgafhpdaaaValRW
import Derived.Test.YtcocljgafhpdaaaVOfList
import Derived.Test.YtcocljgafhpdaaaValCmp2
section
namespace Go.Proofs.Ytcocljgafhpdaaa

/-- an operation -/
structure PO where
  kind : Int
  path : List ByteArray
  val : V

def RiseP (f : List Fd) : Prop := f.Pairwise fun p q => p.1.data.toList < q.1.data.toList

mutual
/-- lists of k at most; the names of each map's fields rise -/
def V.okv : V → Nat → Prop
  | .mk _ _ n _ l f, k => (l.length ≤ k ∧ f.length ≤ k ∧ RiseP f ∧ Is64 n) ∧ okL l k ∧ okvF f k
def okL : List V → Nat → Prop
  | [], _ => True
  | v :: l, k => v.okv k ∧ okL l k
def okvF : List (ByteArray × V) → Nat → Prop
  | [], _ => True
  | p :: l, k => V.okv p.2 k ∧ okvF l k
end

theorem okL_iff {l : List V} {k : Nat} : okL l k ↔ ∀ v ∈ l, v.okv k := by
  induction l with
  | nil => simp [okL]
  | cons v l ih => simp [okL, ih]
theorem okvF_iff {l : List Fd} {k : Nat} : okvF l k ↔ ∀ p ∈ l, p.2.okv k := by
  induction l with
  | nil => simp [okvF]
  | cons v l ih => simp only [okvF, ih, List.mem_cons, forall_eq_or_imp]

theorem okv_iff {v : V} {k : Nat} : v.okv k ↔ (v.list.length ≤ k ∧ v.fields.length ≤ k ∧ RiseP v.fields ∧ Is64 v.num) ∧ (∀ x ∈ v.list, x.okv k) ∧ ∀ p ∈ v.fields, p.2.okv k := by
  cases v with
  | mk kk y n t l f =>
    rw [V.okv, okL_iff, okvF_iff]
    exact Iff.rfl

theorem okv_mono {k k' : Nat} (hk : k ≤ k') : ∀ (N : Nat) (v : V), v.dep ≤ N → v.okv k → v.okv k'
  | 0, v, hd, _ => by
    cases v
    rw [V.dep] at hd
    omega
  | N + 1, v, hd, h => by
    rw [okv_iff] at h ⊢
    obtain ⟨⟨h1, h2, h3, h6⟩, h4, h5⟩ := h
    exact ⟨⟨by omega, by omega, h3, h6⟩, fun x hx => okv_mono hk N x (by have := dep_list hx; omega) (h4 x hx), fun p hp => okv_mono hk N p.2 (by have := dep_fields hp; omega) (h5 p hp)⟩

theorem okv_sm {k : Nat} (hk : k ≤ 100000) : ∀ (N : Nat) (v : V), v.dep ≤ N → v.okv k → v.sm
  | 0, v, hd, _ => by
    cases v
    rw [V.dep] at hd
    omega
  | N + 1, .mk kk y n t l f, hd, h => by
    obtain ⟨⟨h1, h2, h3, _⟩, h4, h5⟩ := okv_iff.1 h
    exact ⟨⟨Nat.le_trans h1 hk, Nat.le_trans h2 hk⟩, smL_iff.2 fun x hx => okv_sm hk N x (by have := dep_list (v := .mk kk y n t l f) hx; omega) (h4 x hx), smF_iff.2 fun p hp => okv_sm hk N p.2 (by have := dep_fields (v := .mk kk y n t l f) hp; omega) (h5 p hp)⟩

theorem V.okv.sm {v : V} {k : Nat} (h : v.okv k) (hk : k ≤ 100000) : v.sm := okv_sm hk v.dep v (Nat.le_refl _) h
theorem V.okv.mono {v : V} {k k' : Nat} (h : v.okv k) (hk : k ≤ k') : v.okv k' := okv_mono hk v.dep v (Nat.le_refl _) h

theorem rise_adj {f : List Fd} (h : ∀ i (h : i + 1 < f.length), (f[i]'(by omega)).1.data.toList < (f[i + 1]).1.data.toList) : RiseP f := by
  refine List.pairwise_iff_getElem.2 fun i j hi hj hij => ?_
  obtain ⟨d, rfl⟩ : ∃ d, j = i + 1 + d := ⟨j - i - 1, by omega⟩
  induction d with
  | zero => exact h i (by omega)
  | succ d ih =>
    have h1 := ih (by omega) (by omega)
    have h2 := h (i + 1 + d) (by omega)
    exact List.lt_trans h1 h2

theorem right_rise {v : V} {d : Int} (h : v.right d = true) : RiseP v.fields := by
  cases v with
  | mk k y n t l f =>
    rw [V.right, Bool.and_eq_true] at h
    refine rise_adj fun i hi => ?_
    have h1 := (rightF_iff.1 h.2 (i + 1) hi).2
    rw [dif_pos (by omega)] at h1
    unfold nameLt at h1
    exact of_decide_eq_true h1

theorem okv_few : ∀ (N : Nat) (v : V) (d : Int) (r : Int), v.dep ≤ N → v.few d = true → v.right r = true → v.n64 → v.okv 8
  | 0, v, d, r, hd, _, _, _ => by
    cases v
    rw [V.dep] at hd
    omega
  | N + 1, .mk k y n t l f, d, r, hd, h, hr, hn => by
    have hdl : ∀ x ∈ l, x.dep ≤ N := fun x hx => by have := dep_list (v := .mk k y n t l f) hx; omega
    have hdf : ∀ p ∈ f, p.2.dep ≤ N := fun p hp => by have := dep_fields (v := .mk k y n t l f) hp; omega
    obtain ⟨n1, n2, n3⟩ := hn
    have hrise := right_rise hr
    rw [V.few] at h
    simp only [Bool.and_eq_true, decide_eq_true_eq] at h
    obtain ⟨_, h2, h3, _, h5, h6⟩ := h
    rw [V.right, Bool.and_eq_true, Bool.and_eq_true] at hr
    obtain ⟨⟨_, hL⟩, hF⟩ := hr
    refine okv_iff.2 ⟨⟨h2, h3, hrise, n1⟩, fun x hx => okv_few N x _ _ (hdl x hx) (fewL_iff.1 h5 x hx) (rightL_iff.1 hL x hx) (n64L_iff.1 n2 x hx), fun p hp => ?_⟩
    obtain ⟨g1, g2⟩ := fewF_iff.1 h6 p hp
    obtain ⟨i, hi, rfl⟩ := List.getElem_of_mem hp
    exact okv_few N _ _ _ (hdf _ hp) g2 (rightF_iff.1 hF i hi).1 (n64F_iff.1 n3 _ hp)

theorem getF_no {l : List Fd} {n : ByteArray} (h : ∀ p ∈ l, p.1 ≠ n) : getF l n = none := by
  induction l with
  | nil => rfl
  | cons p l ih =>
    rw [getF, if_neg (h p (by simp))]
    exact ih fun q hq => h q (by simp [hq])

/-- a name's value; null where there is none -/
def valF (f : List Fd) (n : ByteArray) : V := (getF f n).getD V.null

/-- how many fields' names are ahead of a name; whether one is it -/
def atF (f : List Fd) (n : ByteArray) : Nat := f.countP fun p => decide (p.1.data.toList < n.data.toList)
def isF (f : List Fd) (n : ByteArray) : Bool := (getF f n).isSome

theorem atF_le (f : List Fd) (n : ByteArray) : atF f n ≤ f.length := List.countP_le_length

theorem atF_cons_lt {p : Fd} {l : List Fd} {n : ByteArray} (h : p.1.data.toList < n.data.toList) : atF (p :: l) n = atF l n + 1 := by
  unfold atF
  rw [List.countP_cons_of_pos (by simpa using h)]

theorem atF_zero {p : Fd} {l : List Fd} {n : ByteArray} (hr : RiseP (p :: l)) (h : ¬ p.1.data.toList < n.data.toList) : atF (p :: l) n = 0 := by
  unfold atF
  rw [List.countP_eq_zero]
  intro q hq
  rcases List.mem_cons.1 hq with rfl | hq
  · simpa using h
  · have h1 := (List.pairwise_cons.1 hr).1 q hq
    simp only [decide_eq_true_eq]
    exact fun h2 => h (List.lt_trans h1 h2)

/-- what stands ahead of that place is what is less -/
theorem atF_lt : ∀ {f : List Fd} {n : ByteArray}, RiseP f → ∀ i (h : i < f.length), (f[i]).1.data.toList < n.data.toList ↔ i < atF f n
  | [], _, _, i, h => by simp at h
  | p :: l, n, hr, i, hi => by
    by_cases h : p.1.data.toList < n.data.toList
    · rw [atF_cons_lt h]
      match i, hi with
      | 0, _ => simpa using h
      | i + 1, hi =>
        have := atF_lt (n := n) (List.pairwise_cons.1 hr).2 i (by simpa using hi)
        simp only [List.getElem_cons_succ]
        rw [this]
        omega
    · rw [atF_zero hr h]
      refine ⟨fun h1 => absurd ?_ h, fun h1 => by omega⟩
      match i, hi with
      | 0, _ => simpa using h1
      | i + 1, hi => exact List.lt_trans ((List.pairwise_cons.1 hr).1 _ (List.getElem_mem (by simpa using hi))) h1

theorem nm_tri (a b : ByteArray) : a.data.toList < b.data.toList ∨ a = b ∨ b.data.toList < a.data.toList := by
  by_cases h1 : a.data.toList < b.data.toList
  · exact .inl h1
  · by_cases h2 : b.data.toList < a.data.toList
    · exact .inr (.inr h2)
    · exact .inr (.inl (by
        have := List.le_antisymm (List.not_lt.1 h2) (List.not_lt.1 h1)
        apply ByteArray.ext
        exact Array.toList_inj.1 this))

/-- the field of that name stands at that place, if there is one -/
theorem isF_at : ∀ {f : List Fd} {n : ByteArray}, RiseP f → getF f n = match f[atF f n]? with | some p => if p.1 = n then some p.2 else none | none => none
  | [], _, _ => rfl
  | p :: l, n, hr => by
    have hr2 := (List.pairwise_cons.1 hr)
    by_cases h : p.1.data.toList < n.data.toList
    · rw [atF_cons_lt h, List.getElem?_cons_succ, ← isF_at hr2.2, getF, if_neg]
      exact fun e => by rw [e] at h; exact List.lt_irrefl _ h
    · rw [atF_zero hr h, List.getElem?_cons_zero, getF]
      by_cases e : p.1 = n
      · simp [e]
      · rw [if_neg e]
        have hlt : n.data.toList < p.1.data.toList := by
          rcases nm_tri p.1 n with h1 | h1 | h1
          · exact absurd h1 h
          · exact absurd h1 e
          · exact h1
        simp only [if_neg e]
        exact getF_no fun q hq e2 => by
          have := hr2.1 q hq
          rw [e2] at this
          exact List.lt_irrefl _ (List.lt_trans this hlt)

theorem isF_true {f : List Fd} {n : ByteArray} (hr : RiseP f) (h : isF f n = true) : ∃ hi : atF f n < f.length, (f[atF f n]).1 = n ∧ valF f n = (f[atF f n]).2 := by
  unfold isF at h
  have h1 := isF_at (n := n) hr
  by_cases hi : atF f n < f.length
  · rw [List.getElem?_eq_getElem hi] at h1
    simp only at h1
    by_cases e : (f[atF f n]).1 = n
    · rw [if_pos e] at h1
      exact ⟨hi, e, by unfold valF; rw [h1]; rfl⟩
    · rw [if_neg e] at h1
      rw [h1] at h
      cases h
  · rw [List.getElem?_eq_none (by omega)] at h1
    rw [h1] at h
    cases h

theorem isF_false {f : List Fd} {n : ByteArray} (h : isF f n = false) : valF f n = V.null := by
  unfold isF at h
  unfold valF
  cases hg : getF f n with
  | none => rfl
  | some x => rw [hg] at h; cases h

/-- a list of fields with another value of a name, or none -/
def putV (f : List Fd) (n : ByteArray) (o : Option V) : List Fd := f.take (atF f n) ++ ((match o with | some x => [(n, x)] | none => []) ++ f.drop (atF f n + if isF f n then 1 else 0))

def intV (n : Int) : V := .mk 2 false n ⟨#[]⟩ [] []

def addV (x : V) (n : Int) : Except Int V :=
  if x.kind ≠ 2 ∨ (0 < n ∧ 9223372036854775807 - n < x.num) ∨ (n < 0 ∧ x.num < -9223372036854775808 - n) then .error 1 else .ok (intV (x.num + n))

/-- what a field at the end of the path is behind an operation -/
def lastV (o : PO) (x : V) (there : Bool) : Except Int (Option V) :=
  if o.kind = 1 then .ok (some o.val) else if there = false then .error 5 else if o.kind = 2 then .ok none else (addV x o.val.num).map some

def V.setF (v : V) (f : List Fd) : V := .mk v.kind v.yes v.num v.text v.list f

def alongV (o : PO) : List ByteArray → V → Except Int V
  | [], _ => .error 5
  | [n], v => if v.kind ≠ 5 then .error 5 else (lastV o (valF v.fields n) (isF v.fields n)).map fun y => v.setF (putV v.fields n y)
  | n :: m :: r, v => if v.kind ≠ 5 then .error 5 else (alongV o (m :: r) (valF v.fields n)).map fun y => v.setF (putV v.fields n (some y))

theorem valF_okv {f : List Fd} {n : ByteArray} {k : Nat} (h : ∀ p ∈ f, p.2.okv k) : (valF f n).okv k := by
  unfold valF
  cases hg : getF f n with
  | none => exact okv_iff.2 ⟨⟨Nat.zero_le _, Nat.zero_le _, List.Pairwise.nil, by unfold Is64; show _ ∧ _; decide⟩, (fun _ h => by cases h), (fun _ h => by cases h)⟩
  | some x =>
    have : ∃ p ∈ f, p.2 = x := by
      clear h
      induction f with
      | nil => cases hg
      | cons p l ih =>
        rw [getF] at hg
        by_cases e : p.1 = n
        · rw [if_pos e] at hg
          exact ⟨p, by simp, Option.some.inj hg⟩
        · rw [if_neg e] at hg
          obtain ⟨q, hq, e2⟩ := ih hg
          exact ⟨q, by simp [hq], e2⟩
    obtain ⟨p, hp, rfl⟩ := this
    exact h p hp

theorem putV_mem {f : List Fd} {n : ByteArray} {o : Option V} {p : Fd} (h : p ∈ putV f n o) : p ∈ f ∨ ∃ x, o = some x ∧ p = (n, x) := by
  unfold putV at h
  rcases List.mem_append.1 h with h | h
  · exact .inl (List.mem_of_mem_take h)
  · rcases List.mem_append.1 h with h | h
    · cases o with
      | none => cases h
      | some x => exact .inr ⟨x, rfl, by simpa using h⟩
    · exact .inl (List.mem_of_mem_drop h)

theorem putV_length (f : List Fd) (n : ByteArray) (o : Option V) : (putV f n o).length ≤ f.length + 1 := by
  have := atF_le f n
  unfold putV
  cases o <;> simp only [List.length_append, List.length_take, List.length_drop, List.length_nil, List.length_cons] <;> omega

theorem putV_rise {f : List Fd} {n : ByteArray} {o : Option V} (h : RiseP f) : RiseP (putV f n o) := by
  have hat := isF_at (n := n) h
  have hbelow : ∀ p ∈ f.take (atF f n), p.1.data.toList < n.data.toList := fun p hp => by
    obtain ⟨i, hi, rfl⟩ := List.getElem_of_mem hp
    rw [List.length_take] at hi
    rw [List.getElem_take]
    exact (atF_lt h i (by omega)).2 (by omega)
  have habove : ∀ p ∈ f.drop (atF f n + if isF f n then 1 else 0), n.data.toList < p.1.data.toList := fun p hp => by
    obtain ⟨i, hi, rfl⟩ := List.getElem_of_mem hp
    rw [List.length_drop] at hi
    rw [List.getElem_drop]
    have h1 := (atF_lt (n := n) h (atF f n + (if isF f n then 1 else 0) + i) (by omega))
    rcases nm_tri (f[atF f n + (if isF f n then 1 else 0) + i]'(by omega)).1 n with h2 | h2 | h2
    · have := h1.1 h2; omega
    · exfalso
      have hlt : atF f n < f.length := by omega
      rw [List.getElem?_eq_getElem hlt] at hat
      by_cases e : (f[atF f n]).1 = n
      · have hs : isF f n = true := by unfold isF; rw [hat]; simp [e]
        have h3 := List.pairwise_iff_getElem.1 h (atF f n) (atF f n + (if isF f n then 1 else 0) + i) hlt (by omega) (by rw [hs]; simp; omega)
        rw [h2, e] at h3
        exact List.lt_irrefl _ h3
      · by_cases hi0 : atF f n = atF f n + (if isF f n then 1 else 0) + i
        · refine e ?_
          have : (f[atF f n]).1 = (f[atF f n + (if isF f n then 1 else 0) + i]'(by omega)).1 := by congr 2
          rw [this, h2]
        · have h3 := List.pairwise_iff_getElem.1 h (atF f n) (atF f n + (if isF f n then 1 else 0) + i) hlt (by omega) (by omega)
          rw [h2] at h3
          have := (atF_lt (n := n) h (atF f n) hlt).1 h3
          omega
    · exact h2
  unfold putV
  refine List.pairwise_append.2 ⟨h.sublist (List.take_sublist _ _), List.pairwise_append.2 ⟨?_, h.sublist (List.drop_sublist _ _), ?_⟩, ?_⟩
  · cases o with
    | none => exact List.Pairwise.nil
    | some x => exact List.pairwise_singleton _ _
  · intro p hp q hq
    cases o with
    | none => cases hp
    | some x =>
      obtain rfl : p = (n, x) := by simpa using hp
      exact habove q hq
  · intro p hp q hq
    have h1 := hbelow p hp
    rcases List.mem_append.1 hq with hq | hq
    · cases o with
      | none => cases hq
      | some x =>
        obtain rfl : q = (n, x) := by simpa using hq
        exact h1
    · exact List.lt_trans h1 (habove q hq)

theorem setF_okv {v : V} {n : ByteArray} {o : Option V} {k : Nat} (h : v.okv k) (ho : ∀ x, o = some x → x.okv (k + 1)) : (v.setF (putV v.fields n o)).okv (k + 1) := by
  obtain ⟨⟨h1, h2, h3, h6⟩, h4, h5⟩ := okv_iff.1 h
  refine okv_iff.2 ⟨⟨show v.list.length ≤ _ by omega, ?_, putV_rise h3, h6⟩, fun x hx => (h4 x hx).mono (by omega), fun p hp => ?_⟩
  · have := putV_length v.fields n o
    show (putV v.fields n o).length ≤ k + 1
    omega
  · rcases putV_mem hp with hp | ⟨x, rfl, rfl⟩
    · exact (h5 p hp).mono (by omega)
    · exact ho x rfl

theorem intV_okv {n : Int} (h : Is64 n) (k : Nat) : (intV n).okv k := okv_iff.2 ⟨⟨Nat.zero_le _, Nat.zero_le _, List.Pairwise.nil, h⟩, (fun _ h => by cases h), (fun _ h => by cases h)⟩

theorem addV_num {x : V} {n : Int} (hx : Is64 x.num) (hn : Is64 n) (h : ¬ (x.kind ≠ 2 ∨ (0 < n ∧ 9223372036854775807 - n < x.num) ∨ (n < 0 ∧ x.num < -9223372036854775808 - n))) : Is64 (x.num + n) := by
  unfold Is64 at *
  omega

theorem lastV_okv {o : PO} {x : V} {t : Bool} {k : Nat} (ho : o.val.okv k) (hx : Is64 x.num) {y : Option V} (h : lastV o x t = .ok y) : ∀ z, y = some z → z.okv k := by
  unfold lastV at h
  split at h
  · injection h with h
    intro z hz
    rw [← h] at hz
    injection hz with hz
    rw [← hz]
    exact ho
  · split at h
    · cases h
    · split at h
      · injection h with h
        intro z hz
        rw [← h] at hz
        cases hz
      · unfold addV at h
        split at h
        · cases h
        · rename_i hno
          injection h with h
          intro z hz
          rw [← h] at hz
          injection hz with hz
          rw [← hz]
          exact intV_okv (addV_num hx (okv_iff.1 ho).1.2.2.2 hno) _

theorem alongV_okv {o : PO} {k : Nat} (ho : o.val.okv k) : ∀ (path : List ByteArray) (v y : V), v.okv k → alongV o path v = .ok y → y.okv (k + 1)
  | [], _, _, _, h => by cases h
  | [n], v, y, hv, h => by
    rw [alongV] at h
    split at h
    · cases h
    · cases hl : lastV o (valF v.fields n) (isF v.fields n) with
      | error e => rw [hl] at h; cases h
      | ok z =>
        rw [hl] at h
        injection h with h
        rw [← h]
        exact setF_okv hv fun x hx => (lastV_okv ho (okv_iff.1 (valF_okv (okv_iff.1 hv).2.2)).1.2.2.2 hl x hx).mono (by omega)
  | n :: m :: r, v, y, hv, h => by
    rw [alongV] at h
    split at h
    · cases h
    · cases hl : alongV o (m :: r) (valF v.fields n) with
      | error e => rw [hl] at h; cases h
      | ok z =>
        rw [hl] at h
        injection h with h
        rw [← h]
        refine setF_okv hv fun x hx => ?_
        injection hx with hx
        rw [← hx]
        exact alongV_okv ho (m :: r) _ _ (valF_okv (okv_iff.1 hv).2.2) hl

end Go.Proofs.Ytcocljgafhpdaaa
end

section
namespace Go.Proofs.Ytcocljgafhpdaaa
open Go.RowKit

/-- a row to which may be appended: the values lie in blocks of P -/
def GRow (w : World) (B : Nat) (P : Nat → Prop) (vv : Value) (vs : List Fd) : Prop :=
  FRowP w B P vv vs ∨ (vs = [] ∧ ∃ b off, vv = .slice (some ⟨b, off, none⟩) 0 0)

theorem GRow.form {w : World} {B : Nat} {P : Nat → Prop} {vv : Value} {vs : List Fd} (h : GRow w B P vv vs) : ∃ a c, vv = .slice a vs.length c ∧ vs.length ≤ c ∧ c ≤ maxLen := by
  rcases h with h | ⟨rfl, b, off, rfl⟩
  · exact h.form
  · exact ⟨_, 0, rfl, Nat.le_refl _, by unfold maxLen; omega⟩

theorem GRow.atP {w : World} {B : Nat} {P S : Nat → Prop} {vv : Value} {vs : List Fd} (h : GRow w B P vv vs) (hP : ∀ q, P q → S q) (hB : ∀ q, B ≤ q → S q) : FAt w S vs vv := by
  rcases h with h | ⟨rfl, b, off, rfl⟩
  · obtain ⟨a, c, e, h1, h2⟩ := h.form
    refine ⟨a, c, e, h1, h2, ?_⟩
    obtain ⟨cs, hown, hold⟩ := h
    rcases hown.2 with ⟨_, h0⟩ | ⟨g, cap, cur, e1, e2, e3, e4, e5, e6, e7⟩
    · exact .inl (List.length_eq_zero_iff.1 h0)
    · refine .inr ⟨g, 0, ?_, hB g e2, (Array.getElem?_eq_some_iff.1 e3).1, FCells.mk fun i hi => ?_⟩
      · rw [e1] at e
        injection e with e _ _
        exact e.symm
      · obtain ⟨lv, fv, g1, g2⟩ := hold i hi
        refine ⟨lv, fv, fun j u hj => ?_, g2.wider fun q hq => hP q hq.1⟩
        have h3 := g1 j u hj
        rw [Nat.zero_add, Box.cell (show Box w g 30 cur from e3)]
        rw [← e7, List.getElem?_take] at h3
        split at h3
        · rw [← Array.getElem?_toList]; exact h3
        · cases h3
  · exact ⟨_, 0, rfl, Nat.le_refl _, by unfold maxLen; omega, .inl rfl⟩

theorem GRow.at_ {w : World} {B : Nat} {P : Nat → Prop} {vv : Value} {vs : List Fd} (h : GRow w B P vv vs) : FAt w All vs vv := by
  rcases h with h | ⟨rfl, b, off, rfl⟩
  · exact ((h.toRow (B' := 0) (Nat.zero_le _) (fun _ _ => Nat.zero_le _)).at_).move (fun _ _ _ => ⟨trivial, rfl⟩) (Nat.le_refl _)
  · exact ⟨_, 0, rfl, Nat.le_refl _, by unfold maxLen; omega, .inl rfl⟩

/-- what is there keeps it, if nothing that it reaches is turned -/
theorem GRow.below {w w' : World} {B : Nat} {P : Nat → Prop} {vv : Value} {vs : List Fd} (h : GRow w B P vv vs) (hb : Below w.heap.size w w') : GRow w' B P vv vs := by
  rcases h with h | h
  · exact .inl (h.keep (fun b hb' hlt => ⟨hb', hb.block b hlt⟩) (fun b ho => hb.block b (h.own b ho).2) hb.size)
  · exact .inr h

/-- the cells of fields that lie somewhere -/
def newsOf (w : World) (b off m : Nat) : List Value := (List.range (m * 7)).map fun j => (w.cell? ⟨b, off + j, none⟩).getD (.bool false)

def SrcAt (w : World) (P : Nat → Prop) (b off : Nat) (rows : List Fd) : Prop := ∀ i (h : i < rows.length), ∃ lv fv, InAt w b (off + i * 7) (fcells (rows[i]) lv fv) ∧ (rows[i]).2.At w P lv fv

theorem newsOf_get {w : World} {P : Nat → Prop} {b off : Nat} {rows : List Fd} (h : SrcAt w P b off rows) : (newsOf w b off rows.length).length = rows.length * 7 ∧ (∀ j u, (newsOf w b off rows.length)[j]? = some u → w.cell? ((⟨b, off, none⟩ : Addr).add j) = some u) ∧ (∀ u ∈ newsOf w b off rows.length, u.oneCell' = true) ∧
    ∀ i (h : i < rows.length), ∃ lv fv, (∀ j u, (fcells (rows[i]) lv fv)[j]? = some u → (newsOf w b off rows.length)[i * 7 + j]? = some u) ∧ (rows[i]).2.At w P lv fv := by
  have hl : (newsOf w b off rows.length).length = rows.length * 7 := by simp [newsOf]
  have hcell : ∀ j, j < rows.length * 7 → ∃ u, w.cell? ⟨b, off + j, none⟩ = some u ∧ u.oneCell' = true := fun j hj => by
    obtain ⟨lv, fv, h1, h2⟩ := h (j / 7) (by omega)
    have h7 : j % 7 < (fcells (rows[j / 7]) lv fv).length := by show j % 7 < 7; omega
    have h3 := h1 (j % 7) _ (List.getElem?_eq_getElem h7)
    rw [show off + j / 7 * 7 + j % 7 = off + j by omega] at h3
    refine ⟨_, h3, ?_⟩
    obtain ⟨⟨pa, pc, rfl⟩, ⟨qa, qc, rfl⟩, _, _⟩ := h2.is.len
    have := List.getElem_mem h7
    generalize (fcells (rows[j / 7]) _ _)[j % 7] = u at this
    simp [fcells, V.cells] at this
    rcases this with rfl | rfl | rfl | rfl | rfl | rfl | rfl <;> rfl
  have hget : ∀ j, j < rows.length * 7 → ∀ u, w.cell? ⟨b, off + j, none⟩ = some u → (newsOf w b off rows.length)[j]? = some u := fun j hj u hu => by
    unfold newsOf
    rw [List.getElem?_map, List.getElem?_range hj]
    simp [hu]
  refine ⟨hl, fun j u hj => ?_, fun u hu => ?_, fun i hi => ?_⟩
  · have hjl : j < rows.length * 7 := by rw [← hl]; exact (List.getElem?_eq_some_iff.1 hj).1
    obtain ⟨u', h1, _⟩ := hcell j hjl
    rw [hget j hjl u' h1] at hj
    have e : ((⟨b, off, none⟩ : Addr).add j) = ⟨b, off + j, none⟩ := by unfold Addr.add; by_cases h0 : j = 0 <;> simp [h0]
    rw [e, h1, ← hj]
  · obtain ⟨j, hj, rfl⟩ := List.getElem_of_mem hu
    rw [hl] at hj
    obtain ⟨u', h1, h2⟩ := hcell j hj
    have h3 := hget j hj u' h1
    rw [List.getElem?_eq_getElem (by rw [hl]; exact hj)] at h3
    rw [Option.some.inj h3]
    exact h2
  · obtain ⟨lv, fv, h1, h2⟩ := h i hi
    refine ⟨lv, fv, fun j u hj => ?_, h2⟩
    have h7 : j < 7 := (List.getElem?_eq_some_iff.1 hj).1
    have h3 := h1 j u hj
    refine hget (i * 7 + j) (by omega) u ?_
    rw [← h3]
    congr 2
    omega

/-- a row that is owned, with more behind it -/
theorem FRowP.more {w w' : World} {B : Nat} {P : Nat → Prop} (hP : ∀ q, P q → q < B) {v' : Value} {rows rows2 : List Fd} {cs news : List Value} (hcs : cs.length = rows.length * 7)
    (hown : w'.ownsRow B 30 7 v' (rows.length + rows2.length) (cs ++ news)) (hb : ∀ q, q < B → q < w.heap.size → w'.heap[q]? = w.heap[q]?) (hz : w.heap.size ≤ w'.heap.size)
    (hold : ∀ i (h : i < rows.length), ∃ lv fv, (∀ j u, (fcells (rows[i]) lv fv)[j]? = some u → cs[i * 7 + j]? = some u) ∧ (rows[i]).2.At w P lv fv)
    (hnew : ∀ i (h : i < rows2.length), ∃ lv fv, (∀ j u, (fcells (rows2[i]) lv fv)[j]? = some u → news[i * 7 + j]? = some u) ∧ (rows2[i]).2.At w P lv fv) :
    FRowP w' B P v' (rows ++ rows2) := by
  have hne : ∀ q, q < B → v'.ownBlock ≠ some q := fun q hq e => by
    have := (World.ownsRow.lt hown q e).1
    omega
  refine ⟨cs ++ news, by rw [List.length_append]; exact hown, fun i hi => ?_⟩
  by_cases h : i < rows.length
  · obtain ⟨lv, fv, h1, h2⟩ := hold i h
    refine ⟨lv, fv, fun j u hj => ?_, ?_⟩
    · rw [List.getElem_append_left h] at hj
      have h3 := h1 j u hj
      rw [List.getElem?_append_left (List.getElem?_eq_some_iff.1 h3).1]
      exact h3
    · rw [List.getElem_append_left h]
      exact V.At.move (fun q hq hlt => ⟨⟨hq, hne q (hP q hq)⟩, hb q (hP q hq) hlt⟩) hz _ (Nat.le_refl _) h2
  · rw [List.length_append] at hi
    obtain ⟨lv, fv, h1, h2⟩ := hnew (i - rows.length) (by omega)
    refine ⟨lv, fv, fun j u hj => ?_, ?_⟩
    · rw [List.getElem_append_right (by omega)] at hj
      have h3 := h1 j u hj
      rw [List.getElem?_append_right (by omega), hcs, show i * 7 + j - rows.length * 7 = (i - rows.length) * 7 + j by omega]
      exact h3
    · rw [List.getElem_append_right (by omega)]
      exact V.At.move (fun q hq hlt => ⟨⟨hq, hne q (hP q hq)⟩, hb q (hP q hq) hlt⟩) hz _ (Nat.le_refl _) h2

theorem grown_below {w w' : World} {B : Nat} {row : Option Nat} (hg : w.grownBy w' row) (hr : ∀ q, row = some q → B ≤ q) (hB : B ≤ w.heap.size) : Below B w w' :=
  (Below.refl B w).grown hg hB hr

set_option linter.unusedSimpArgs false in
theorem app_none {w : World} {B : Nat} {P : Nat → Prop} {vv : Value} {rows : List Fd} (hrow : GRow w B P vv rows) (sa : Option Addr) (sc : Nat) (ty : TypeId) :
    ∃ v' w', (Builtin.append_ #[22, 22] ty #[vv, .slice sa 0 sc]).run Try.prog w = .ok v' w' ∧ GRow w' B P v' rows ∧ Below B w w' := by
  obtain ⟨i, hi, hz, hi1, hi2⟩ := info_parts infoF
  have hfc := fun x => run_firstCells_some (P := Try.prog) w i.size 0 x 0 sc [] (by simp) (fun j u hj => by simp at hj)
  have hld : ∀ x : Addr, (loadCells x 0).run Try.prog w = .ok #[] w := fun x => by have := hfc x; simpa [Builtin.firstCells] using this
  rcases hrow with hrow | ⟨rfl, b0, off0, rfl⟩
  · obtain ⟨cs, hown, hold⟩ := id hrow
    refine ⟨vv, w, ?_, .inl hrow, Below.refl _ _⟩
    rcases hown.2 with ⟨rfl, h0⟩ | ⟨g, cap, cur, rfl, _, _, hnc, _⟩
    · cases sa <;> simp [Builtin.append_, run_underlying Try.underlying22, sizeOf, typeInfo, hi, Builtin.lenOf, hld, Builtin.firstCells, storeCells]
    · cases sa <;> simp [Builtin.append_, run_underlying Try.underlying22, sizeOf, typeInfo, hi, Builtin.lenOf, hld, Builtin.firstCells, hnc, storeCells]
  · refine ⟨.slice (some ⟨b0, off0, none⟩) 0 0, w, ?_, .inr ⟨rfl, _, _, rfl⟩, Below.refl _ _⟩
    cases sa <;> simp [Builtin.append_, run_underlying Try.underlying22, sizeOf, typeInfo, hi, Builtin.lenOf, hld, Builtin.firstCells, storeCells]

theorem app_flds {w : World} {B : Nat} {P : Nat → Prop} (hP : ∀ q, P q → q < B) {vv : Value} {rows rows2 : List Fd} (hrow : GRow w B P vv rows) (hn : rows.length ≤ 100000) (hm : rows2.length ≤ 100000) (hB : B ≤ w.heap.size) {sa : Option Addr} {sc : Nat}
    (hs : rows2 = [] ∨ ∃ b off, sa = some ⟨b, off, none⟩ ∧ SrcAt w P b off rows2) (ty : TypeId) :
    ∃ v' w', (Builtin.append_ #[22, 22] ty #[vv, .slice sa rows2.length sc]).run Try.prog w = .ok v' w' ∧ GRow w' B P v' (rows ++ rows2) ∧ Below B w w' := by
  by_cases h0 : rows2 = []
  · subst h0
    rw [List.append_nil]
    exact app_none hrow sa sc ty
  obtain ⟨b, off, rfl, hs2⟩ := hs.resolve_left h0
  obtain ⟨i, hi, hz, hi1, hi2⟩ := info_parts infoF
  obtain ⟨n1, n2, n3, n4⟩ := newsOf_get hs2
  rcases hrow with hrow | ⟨rfl, b0, off0, rfl⟩
  · obtain ⟨cs, hown, hold⟩ := id hrow
    have hbB : ∀ q, vv.ownBlock = some q → B ≤ q := fun q hq => (hrow.own q hq).1
    obtain ⟨v', w', hr, ho, hu⟩ := run_app (P := Try.prog) w B 22 ty 30 i _ 7 104 Try.underlying22 hi hz hi1 hi2 rfl (by decide) vv rows.length cs hown ⟨b, off, none⟩ rows2.length sc _ n1 n2 n3 (by unfold maxLen; omega) (by omega) hB
    have hb := grown_below hu.1 hbB hB
    exact ⟨v', w', hr, .inl (FRowP.more hP hown.1 ho (fun q hq _ => hb.block q hq) hb.size (fun i hi => by
      obtain ⟨lv, fv, h1, h2⟩ := hold i hi
      exact ⟨lv, fv, h1, h2.wider fun q hq => hq.1⟩) n4), hb⟩
  · have hpos : 0 < rows2.length := List.length_pos_iff.2 h0
    obtain ⟨v', w', hr, ho, hg⟩ := run_append_arg_grows (P := Try.prog) w 22 ty 30 i _ 7 104 Try.underlying22 hi hz hi1 hi2 rfl (by decide) ⟨b0, off0, none⟩ 0 0 [] rfl (fun j u hj => by simp at hj)
      ⟨b, off, none⟩ rows2.length sc _ n1 n2 (by omega) (by unfold maxLen; omega) (by omega)
    have hb := grown_below (B := B) hg (fun q hq => by cases hq) hB
    have ho' : w'.ownsRow B 30 7 v' (([] : List Fd).length + rows2.length) ([] ++ newsOf w b off rows2.length) := ⟨ho.1, ho.2.imp id fun ⟨g, cap, cur, h1, h2, r⟩ => ⟨g, cap, cur, h1, Nat.le_trans hB h2, r⟩⟩
    exact ⟨v', w', hr, .inl (FRowP.more hP (rows := []) rfl ho' (fun q hq _ => hb.block q hq) hb.size (fun i hi => by simp at hi) n4), hb⟩

theorem fld_hi (a : Option Addr) (n c i : Nat) (h : i ≤ c) (h0 : a = none → i = 0) : ∀ W, (Instr.slice 22 (.slice a n c) none (some (.int .i64 (i : Int))) none).run Try.prog W = .ok (.slice a i c) W := by
  have h1 : (i : Int) ≤ (c : Int) := by omega
  intro W
  cases a with
  | none =>
    obtain rfl := h0 rfl
    go_simp
  | some x => go_simp

theorem fld_lo (a : Option Addr) (n c j : Nat) (h : j ≤ n) (h2 : n ≤ c) (h0 : a = none → n = 0) : ∃ a', (∀ W, (Instr.slice 22 (.slice a n c) (some (.int .i64 (j : Int))) none none).run Try.prog W = .ok (.slice a' (n - j) (c - j)) W) ∧ ∀ b off, a = some ⟨b, off, none⟩ → j < n → a' = some ⟨b, off + j * 7, none⟩ := by
  have h1 : (j : Int) ≤ (n : Int) := by omega
  have h3 : (n : Int) ≤ (c : Int) := by omega
  cases a with
  | none =>
    obtain rfl := h0 rfl
    obtain rfl : j = 0 := by omega
    refine ⟨none, fun W => ?_, fun b off e => by cases e⟩
    go_simp
  | some x =>
    by_cases hc : c = j
    · refine ⟨some x, fun W => ?_, fun b off e hl => by omega⟩
      subst hc
      go_simp
    · refine ⟨some (x.add (j * 7)), fun W => ?_, fun b off e _ => ?_⟩
      · go_simp
      · injection e with e
        subst e
        unfold Addr.add
        by_cases h0 : j * 7 = 0 <;> simp [h0]

end Go.Proofs.Ytcocljgafhpdaaa
end

section
namespace Go.Proofs.Ytcocljgafhpdaaa
open Go.RowKit

/-- what a call gives that makes a value or tells an error -/
def ResP (r : Except Int V) (S : Nat → Prop) (w : World) (e : Ending) (w' : World) : Prop :=
  Below w.heap.size w w' ∧ match r with
  | .ok v => ∃ a c a' c', e = .returned (.tuple #[.agg #[.int .i64 v.kind, .bool v.yes, .int .i64 v.num, .string v.text, .slice a v.list.length c, .slice a' v.fields.length c'], .int .i64 0]) ∧ v.At w' (fun q => S q ∨ w.heap.size ≤ q) (.slice a v.list.length c) (.slice a' v.fields.length c')
  | .error c => c ≠ 0 ∧ e = .returned (.tuple #[.agg #[.int .i64 0, .bool false, .int .i64 0, .string ⟨#[]⟩, .slice none 0 0, .slice none 0 0], .int .i64 c])

theorem intV_is (n : Int) (w : World) (S : Nat → Prop) : (intV n).At w S (.slice none 0 0) (.slice none 0 0) := V.at_iff.2 ⟨⟨none, 0, rfl, Nat.le_refl _, by unfold maxLen; omega, .inl rfl⟩, ⟨none, 0, rfl, Nat.le_refl _, by unfold maxLen; omega, .inl rfl⟩⟩

set_option maxHeartbeats 4000000 in
set_option maxRecDepth 100000 in
theorem add_any (x : V) (la : Option Addr) (ll lc : Nat) (fa : Option Addr) (fl fc : Nat) (n : Int) (w : World) (hx : Is64 x.num) (hn : Is64 n) (S : Nat → Prop) :
    Calls Try.prog 89 #[.agg #[.int .i64 x.kind, .bool x.yes, .int .i64 x.num, .string x.text, .slice la ll lc, .slice fa fl fc], .int .i64 n] w (ResP (addV x n) S w) := by
  have hb0 : Below w.heap.size w ((w.alloc (.cells #[.int .i64 x.kind, .bool x.yes, .int .i64 x.num, .string x.text, .slice la ll lc, .slice fa fl fc] 26)).alloc (.cells #[.int .i64 0, .bool false, .int .i64 0, .string ⟨#[]⟩, .slice none 0 0, .slice none 0 0] 26)) := ((Below.refl _ w).alloc (Nat.le_refl _) _).alloc (by simp) _
  unfold Is64 at hx hn
  by_cases hk : x.kind = 2
  · have g0 : (x.kind != 2) = false := by simp [hk]
    by_cases h1 : 0 < n
    · have h3 : ¬ n < 0 := by omega
      have hw0 : IntKind.i64.wrap (9223372036854775807 - n) = 9223372036854775807 - n := by rw [IntKind.wrap_i64]; omega
      by_cases h2 : 9223372036854775807 - n < x.num
      · have hr : addV x n = .error 1 := by unfold addV; rw [if_pos (.inr (.inl ⟨h1, h2⟩))]
        rw [hr]
        clear hr hk
        have HB := Lib.hid hb0
        clear hb0 hx hn
        go_enter Try.func89, Try.ntmps89
        go_wp2
        refine bodyPost_ret (v := .tuple #[.agg #[.int .i64 0, .bool false, .int .i64 0, .string ⟨#[]⟩, .slice none 0 0, .slice none 0 0], .int .i64 1]) (by simp [results, Try.results89, go_sem]) rfl ⟨HB.out, by decide, rfl⟩
      · have hr : addV x n = .ok (intV (x.num + n)) := by unfold addV; rw [if_neg (by omega)]
        rw [hr]
        clear hr hk
        have HB := Lib.hid hb0
        have hw : IntKind.i64.wrap (x.num + n) = x.num + n := by rw [IntKind.wrap_i64]; omega
        have HZ := Lib.hid (Box.new (w.alloc (.cells #[.int .i64 x.kind, .bool x.yes, .int .i64 x.num, .string x.text, .slice la ll lc, .slice fa fl fc] 26)) 26 #[.int .i64 0, .bool false, .int .i64 0, .string ⟨#[]⟩, .slice none 0 0, .slice none 0 0])
        have HS : Hid (((w.alloc (.cells #[.int .i64 x.kind, .bool x.yes, .int .i64 x.num, .string x.text, .slice la ll lc, .slice fa fl fc] 26))).heap.size = w.heap.size + 1) := Lib.hid (by simp)
        clear hb0
        go_enter Try.func89, Try.ntmps89
        go_wp2_with fail
        refine (ofInt_any _ _).mono ?_
        rintro e w3 ⟨rfl, hb3⟩
        have hZ3 : Box w3 (w.heap.size + 1) 26 #[.int .i64 0, .bool false, .int .i64 0, .string ⟨#[]⟩, .slice none 0 0, .slice none 0 0] := by
          have h1 := HZ.out
          rw [HS.out] at h1
          exact (hb3.block _ (by simp)).trans h1
        have hb4 : Below w.heap.size w w3 := HB.out.trans (hb3.mono HB.out.size)
        have hF := Box.sets [.int .i64 2, .bool false, .int .i64 (x.num + n), .string ⟨#[]⟩, .slice none 0 0, .slice none 0 0] 0 hZ3
        obtain ⟨⟨k0, k1, k2, k3, k4, k5⟩, _⟩ := Box.six (c0 := .int .i64 2) (c1 := .bool false) (c2 := .int .i64 (x.num + n)) (c3 := .string ⟨#[]⟩) (c4 := .slice none 0 0) (c5 := .slice none 0 0) hF
        simp only [sets, Nat.zero_add, Nat.reduceAdd] at k0 k1 k2 k3 k4 k5
        have hb5 := Below.sets [.int .i64 2, .bool false, .int .i64 (x.num + n), .string ⟨#[]⟩, .slice none 0 0, .slice none 0 0] 0 hb4 (g := w.heap.size + 1) (Nat.le_succ _)
        obtain ⟨⟨z0, z1, z2, z3, z4, z5⟩, s0, s1, s2, s3, s4, s5⟩ := hZ3.six
        have HO : Hid (ResP (.ok (intV (x.num + n))) S w (.returned (.tuple #[.agg #[.int .i64 2, .bool false, .int .i64 (x.num + n), .string ⟨#[]⟩, .slice none 0 0, .slice none 0 0], .int .i64 0])) (sets w3 (w.heap.size + 1) 0 [.int .i64 2, .bool false, .int .i64 (x.num + n), .string ⟨#[]⟩, .slice none 0 0, .slice none 0 0])) := Lib.hid ⟨hb5, none, 0, none, 0, rfl, intV_is _ _ _⟩
        clear hF hb3 hb4 hb5 hZ3 HZ HS hx hn
        go_wp2
        refine bodyPost_ret (v := .tuple #[.agg #[.int .i64 2, .bool false, .int .i64 (x.num + n), .string ⟨#[]⟩, .slice none 0 0, .slice none 0 0], .int .i64 0]) (by simp [results, Try.results89, go_sem, k0, k1, k2, k3, k4, k5]) rfl HO.out
    · by_cases h3 : n < 0
      · have hw0 : IntKind.i64.wrap (-9223372036854775808 - n) = -9223372036854775808 - n := by rw [IntKind.wrap_i64]; omega
        by_cases h2 : x.num < -9223372036854775808 - n
        · have hr : addV x n = .error 1 := by unfold addV; rw [if_pos (.inr (.inr ⟨h3, h2⟩))]
          rw [hr]
          clear hr hk
          have HB := Lib.hid hb0
          clear hb0 hx hn
          go_enter Try.func89, Try.ntmps89
          go_wp2
          refine bodyPost_ret (v := .tuple #[.agg #[.int .i64 0, .bool false, .int .i64 0, .string ⟨#[]⟩, .slice none 0 0, .slice none 0 0], .int .i64 1]) (by simp [results, Try.results89, go_sem]) rfl ⟨HB.out, by decide, rfl⟩
        · have hr : addV x n = .ok (intV (x.num + n)) := by unfold addV; rw [if_neg (by omega)]
          rw [hr]
          clear hr hk
          have HB := Lib.hid hb0
          have hw : IntKind.i64.wrap (x.num + n) = x.num + n := by rw [IntKind.wrap_i64]; omega
          have HZ := Lib.hid (Box.new (w.alloc (.cells #[.int .i64 x.kind, .bool x.yes, .int .i64 x.num, .string x.text, .slice la ll lc, .slice fa fl fc] 26)) 26 #[.int .i64 0, .bool false, .int .i64 0, .string ⟨#[]⟩, .slice none 0 0, .slice none 0 0])
          have HS : Hid (((w.alloc (.cells #[.int .i64 x.kind, .bool x.yes, .int .i64 x.num, .string x.text, .slice la ll lc, .slice fa fl fc] 26))).heap.size = w.heap.size + 1) := Lib.hid (by simp)
          clear hb0
          go_enter Try.func89, Try.ntmps89
          go_wp2_with fail
          refine (ofInt_any _ _).mono ?_
          rintro e w3 ⟨rfl, hb3⟩
          have hZ3 : Box w3 (w.heap.size + 1) 26 #[.int .i64 0, .bool false, .int .i64 0, .string ⟨#[]⟩, .slice none 0 0, .slice none 0 0] := by
            have h1 := HZ.out
            rw [HS.out] at h1
            exact (hb3.block _ (by simp)).trans h1
          have hb4 : Below w.heap.size w w3 := HB.out.trans (hb3.mono HB.out.size)
          have hF := Box.sets [.int .i64 2, .bool false, .int .i64 (x.num + n), .string ⟨#[]⟩, .slice none 0 0, .slice none 0 0] 0 hZ3
          obtain ⟨⟨k0, k1, k2, k3, k4, k5⟩, _⟩ := Box.six (c0 := .int .i64 2) (c1 := .bool false) (c2 := .int .i64 (x.num + n)) (c3 := .string ⟨#[]⟩) (c4 := .slice none 0 0) (c5 := .slice none 0 0) hF
          simp only [sets, Nat.zero_add, Nat.reduceAdd] at k0 k1 k2 k3 k4 k5
          have hb5 := Below.sets [.int .i64 2, .bool false, .int .i64 (x.num + n), .string ⟨#[]⟩, .slice none 0 0, .slice none 0 0] 0 hb4 (g := w.heap.size + 1) (Nat.le_succ _)
          obtain ⟨⟨z0, z1, z2, z3, z4, z5⟩, s0, s1, s2, s3, s4, s5⟩ := hZ3.six
          have HO : Hid (ResP (.ok (intV (x.num + n))) S w (.returned (.tuple #[.agg #[.int .i64 2, .bool false, .int .i64 (x.num + n), .string ⟨#[]⟩, .slice none 0 0, .slice none 0 0], .int .i64 0])) (sets w3 (w.heap.size + 1) 0 [.int .i64 2, .bool false, .int .i64 (x.num + n), .string ⟨#[]⟩, .slice none 0 0, .slice none 0 0])) := Lib.hid ⟨hb5, none, 0, none, 0, rfl, intV_is _ _ _⟩
          clear hF hb3 hb4 hb5 hZ3 HZ HS hx hn
          go_wp2
          refine bodyPost_ret (v := .tuple #[.agg #[.int .i64 2, .bool false, .int .i64 (x.num + n), .string ⟨#[]⟩, .slice none 0 0, .slice none 0 0], .int .i64 0]) (by simp [results, Try.results89, go_sem, k0, k1, k2, k3, k4, k5]) rfl HO.out
      · have hr : addV x n = .ok (intV (x.num + n)) := by unfold addV; rw [if_neg (by omega)]
        rw [hr]
        clear hr hk
        have HB := Lib.hid hb0
        have hw : IntKind.i64.wrap (x.num + n) = x.num + n := by rw [IntKind.wrap_i64]; omega
        have HZ := Lib.hid (Box.new (w.alloc (.cells #[.int .i64 x.kind, .bool x.yes, .int .i64 x.num, .string x.text, .slice la ll lc, .slice fa fl fc] 26)) 26 #[.int .i64 0, .bool false, .int .i64 0, .string ⟨#[]⟩, .slice none 0 0, .slice none 0 0])
        have HS : Hid (((w.alloc (.cells #[.int .i64 x.kind, .bool x.yes, .int .i64 x.num, .string x.text, .slice la ll lc, .slice fa fl fc] 26))).heap.size = w.heap.size + 1) := Lib.hid (by simp)
        clear hb0
        go_enter Try.func89, Try.ntmps89
        go_wp2_with fail
        refine (ofInt_any _ _).mono ?_
        rintro e w3 ⟨rfl, hb3⟩
        have hZ3 : Box w3 (w.heap.size + 1) 26 #[.int .i64 0, .bool false, .int .i64 0, .string ⟨#[]⟩, .slice none 0 0, .slice none 0 0] := by
          have h1 := HZ.out
          rw [HS.out] at h1
          exact (hb3.block _ (by simp)).trans h1
        have hb4 : Below w.heap.size w w3 := HB.out.trans (hb3.mono HB.out.size)
        have hF := Box.sets [.int .i64 2, .bool false, .int .i64 (x.num + n), .string ⟨#[]⟩, .slice none 0 0, .slice none 0 0] 0 hZ3
        obtain ⟨⟨k0, k1, k2, k3, k4, k5⟩, _⟩ := Box.six (c0 := .int .i64 2) (c1 := .bool false) (c2 := .int .i64 (x.num + n)) (c3 := .string ⟨#[]⟩) (c4 := .slice none 0 0) (c5 := .slice none 0 0) hF
        simp only [sets, Nat.zero_add, Nat.reduceAdd] at k0 k1 k2 k3 k4 k5
        have hb5 := Below.sets [.int .i64 2, .bool false, .int .i64 (x.num + n), .string ⟨#[]⟩, .slice none 0 0, .slice none 0 0] 0 hb4 (g := w.heap.size + 1) (Nat.le_succ _)
        obtain ⟨⟨z0, z1, z2, z3, z4, z5⟩, s0, s1, s2, s3, s4, s5⟩ := hZ3.six
        have HO : Hid (ResP (.ok (intV (x.num + n))) S w (.returned (.tuple #[.agg #[.int .i64 2, .bool false, .int .i64 (x.num + n), .string ⟨#[]⟩, .slice none 0 0, .slice none 0 0], .int .i64 0])) (sets w3 (w.heap.size + 1) 0 [.int .i64 2, .bool false, .int .i64 (x.num + n), .string ⟨#[]⟩, .slice none 0 0, .slice none 0 0])) := Lib.hid ⟨hb5, none, 0, none, 0, rfl, intV_is _ _ _⟩
        clear hF hb3 hb4 hb5 hZ3 HZ HS hx hn
        go_wp2
        refine bodyPost_ret (v := .tuple #[.agg #[.int .i64 2, .bool false, .int .i64 (x.num + n), .string ⟨#[]⟩, .slice none 0 0, .slice none 0 0], .int .i64 0]) (by simp [results, Try.results89, go_sem, k0, k1, k2, k3, k4, k5]) rfl HO.out
  · have g0 : (x.kind != 2) = true := by simp [hk]
    have hr : addV x n = .error 1 := by unfold addV; rw [if_pos (.inl hk)]
    rw [hr]
    clear hr hk
    have HB := Lib.hid hb0
    clear hb0 hx hn
    go_enter Try.func89, Try.ntmps89
    go_wp2
    refine bodyPost_ret (v := .tuple #[.agg #[.int .i64 0, .bool false, .int .i64 0, .string ⟨#[]⟩, .slice none 0 0, .slice none 0 0], .int .i64 1]) (by simp [results, Try.results89, go_sem]) rfl ⟨HB.out, by decide, rfl⟩

end Go.Proofs.Ytcocljgafhpdaaa
end

section
namespace Go.Proofs.Ytcocljgafhpdaaa
open Go.RowKit

theorem cmpL_below {a b : L8} : cmpL a b < 0 ↔ a < b := by
  rw [← cmpL_neg]
  unfold cmpL
  split
  · omega
  · split <;> omega

set_option maxHeartbeats 4000000 in
set_option maxRecDepth 100000 in
theorem place_cl (nm : ByteArray) (k : Int) (y : Bool) (m : Int) (t : ByteArray) (la : Option Addr) (ll lc : Nat) (fa : Option Addr) (fl fc : Nat) (n : ByteArray) (w : World) :
    Calls Try.prog 88 #[.agg #[.string nm, .int .i64 k, .bool y, .int .i64 m, .string t, .slice la ll lc, .slice fa fl fc], .string n] w fun e w' => e = .returned (.int .i64 (cmpL nm.data.toList n.data.toList)) ∧ Below w.heap.size w w' := by
  have HB := Lib.hid ((Below.refl _ w).alloc (Nat.le_refl _) (.cells #[.string nm, .int .i64 k, .bool y, .int .i64 m, .string t, .slice la ll lc, .slice fa fl fc] 30))
  go_enter Try.func88, Try.ntmps88
  go_wp2_with fail
  refine (Try.strings_Compare _ _ _).mono ?_
  rintro e w1 ⟨rfl, rfl⟩
  go_wp2
  go_ret
  exact ⟨by rw [cmpB_eq]; rfl, HB.out⟩

set_option maxHeartbeats 4000000 in
set_option maxRecDepth 100000 in
theorem bsf_some (b off c : Nat) (fs : List Fd) (n : ByteArray) (w : World) (hb : b < w.heap.size) (hC : FCells w All b off fs) (hl : fs.length ≤ 100000) (hr : RiseP fs) :
    Calls Try.prog 87 #[.slice (some ⟨b, off, none⟩) fs.length c, .string n, .func (.func 88) #[] #[]] w fun e w' => e = .returned (.tuple #[.int .i64 (atF fs n : Nat), .bool (isF fs n)]) ∧ Below w.heap.size w w' := by
  have HC : Hid (∀ W i (hi : i < fs.length), Below w.heap.size w W → ∃ la lc fa fc, InAt W b (off + i * 7) [.string (fs[i]).1, .int .i64 (fs[i]).2.kind, .bool (fs[i]).2.yes, .int .i64 (fs[i]).2.num, .string (fs[i]).2.text, .slice la (fs[i]).2.list.length lc, .slice fa (fs[i]).2.fields.length fc]) :=
    Lib.hid fun W i hi hB => by
      obtain ⟨lv, fv, hin, hel⟩ := (FCells.keepAll hC hB hb).get hi
      obtain ⟨⟨la, lc, rfl⟩, ⟨fa, fc, rfl⟩, _, _⟩ := (show (fs[i]).2.Is W lv fv from hel).len
      exact ⟨la, lc, fa, fc, hin⟩
  have HR := Lib.hid hr
  have HAT : Hid (atF fs n ≤ fs.length ∧ ∀ i (h : i < fs.length), (cmpL (fs[i]).1.data.toList n.data.toList < 0 ↔ i < atF fs n)) := Lib.hid ⟨atF_le fs n, fun i hi => cmpL_below.trans (atF_lt hr i hi)⟩
  have HIS : Hid (isF fs n = if h : atF fs n < fs.length then decide (cmpL (fs[atF fs n]).1.data.toList n.data.toList = 0) else false) := Lib.hid (by
    unfold isF
    rw [isF_at hr]
    by_cases h : atF fs n < fs.length
    · rw [List.getElem?_eq_getElem h, dif_pos h]
      by_cases e : (fs[atF fs n]).1 = n
      · simp only [e, if_pos, Option.isSome_some]
        rw [cmpB_zero.2 rfl]; rfl
      · simp only [if_neg e, Option.isSome_none]
        exact (decide_eq_false fun h2 => e (cmpB_zero.1 h2)).symm
    · rw [List.getElem?_eq_none (by omega), dif_neg h]; rfl)
  clear hC hr hb
  go_enter Try.func87, Try.ntmps87
  go_wp2
  go_loopw [9, 10] (fun i j wr => ∃ lo hi : Nat, i = .int .i64 lo ∧ j = .int .i64 hi ∧ hi ≤ fs.length ∧ Hid (lo ≤ atF fs n ∧ atF fs n ≤ hi ∧ Below w.heap.size w wr)) (fun i j _ => (intOf j).toNat - (intOf i).toNat)
  case atStart => exact ⟨0, fs.length, rfl, rfl, Nat.le_refl _, Lib.hid ⟨Nat.zero_le _, HAT.out.1, Below.refl _ _⟩⟩
  case round =>
    obtain ⟨lo, hi, rfl, rfl, hin, I⟩ := hrel
    by_cases hlt : lo < hi
    · obtain ⟨m, hm⟩ : ∃ m, m = (lo + hi) / 2 := ⟨_, rfl⟩
      have hml : m < fs.length := by omega
      have hdiv : ((lo : Int) + (hi : Int)) / 2 = (m : Int) := by omega
      have hmn : (m : Int) < (fs.length : Int) := by omega
      obtain ⟨la, lc, fa, fc, hcs⟩ := HC.out wr m hml I.out.2.2
      have hcmp := HAT.out.2 m hml
      obtain ⟨p, hp⟩ : ∃ p, p = fs[m] := ⟨_, rfl⟩
      rw [← hp] at hcs hcmp
      obtain ⟨p0, p1, p2, p3, p4, p5, p6⟩ := hcs.seven
      have hcl := place_cl p.1 p.2.kind p.2.yes p.2.num p.2.text la p.2.list.length lc fa p.2.fields.length fc n wr
      obtain ⟨q, hq⟩ : ∃ q, q = cmpL p.1.data.toList n.data.toList := ⟨_, rfl⟩
      rw [← hq] at hcl hcmp
      have HCL := Lib.hid hcl
      have HLT := Lib.hid (And.intro hlt hm)
      by_cases hneg : q < 0
      · have I2 : Hid (∀ W, Below wr.heap.size wr W → m + 1 ≤ atF fs n ∧ atF fs n ≤ hi ∧ Below w.heap.size w W) := Lib.hid fun W hW => ⟨hcmp.1 hneg, I.out.2.1, I.out.2.2.trans (hW.mono I.out.2.2.size)⟩
        clear hcl hcmp hcs hp hq hm I
        go_wp2_with (go_at_call 88; refine HCL.out.mono ?_; rintro e w' ⟨rfl, hb1⟩; have HB1 := Lib.hid hb1; clear hb1)
        go_roundw
        case rel => exact ⟨m + 1, hi, by go_num, rfl, hin, Lib.hid (I2.out _ HB1.out)⟩
        case measure => have := HLT.out; simp [intOf]; omega
      · have I2 : Hid (∀ W, Below wr.heap.size wr W → lo ≤ atF fs n ∧ atF fs n ≤ m ∧ Below w.heap.size w W) := Lib.hid fun W hW => ⟨I.out.1, by have := fun h => hneg (hcmp.2 h); omega, I.out.2.2.trans (hW.mono I.out.2.2.size)⟩
        clear hcl hcmp hcs hp hq hm I
        go_wp2_with (go_at_call 88; refine HCL.out.mono ?_; rintro e w' ⟨rfl, hb1⟩; have HB1 := Lib.hid hb1; clear hb1)
        go_roundw
        case rel => exact ⟨lo, m, rfl, rfl, by omega, Lib.hid (I2.out _ HB1.out)⟩
        case measure => have := HLT.out; simp [intOf]; omega
    · obtain ⟨e1, e2⟩ : lo = atF fs n ∧ hi = lo := by have := I.out; omega
      have HF := Lib.hid I.out.2.2
      have his := HIS.out
      rw [← e1] at his ⊢
      clear I
      by_cases hle : lo < fs.length
      · rw [dif_pos (by omega)] at his
        obtain ⟨la, lc, fa, fc, hcs⟩ := HC.out wr lo hle HF.out
        obtain ⟨p, hp⟩ : ∃ p, p = fs[lo] := ⟨_, rfl⟩
        have hp2 : fs[atF fs n]'(by omega) = p := by rw [hp]; congr 1; exact e1.symm
        rw [← hp] at hcs
        rw [show (fs[lo]'hle) = p from hp.symm] at his
        obtain ⟨p0, p1, p2, p3, p4, p5, p6⟩ := hcs.seven
        have hcl := place_cl p.1 p.2.kind p.2.yes p.2.num p.2.text la p.2.list.length lc fa p.2.fields.length fc n wr
        obtain ⟨q, hq⟩ : ∃ q, q = cmpL p.1.data.toList n.data.toList := ⟨_, rfl⟩
        rw [← hq] at hcl his
        have HCL := Lib.hid hcl
        have hll : (lo : Int) < (fs.length : Int) := by omega
        have HIF := Lib.hid his
        subst e2
        have HE := Lib.hid e1
        clear hcl hcs hp hp2 hq e1 his HIS
        go_wp2_with (go_at_call 88; refine HCL.out.mono ?_; rintro e w' ⟨rfl, hb1⟩; have HB1 := Lib.hid hb1; clear hb1)
        refine bodyPost_ret (v := .tuple #[.int .i64 hi, .bool (q == 0)]) (by simp [results, Try.results87, go_sem]) rfl ⟨by rw [HIF.out, ← HE.out, show (q == 0) = decide (q = 0) from rfl], HF.out.trans (HB1.out.mono HF.out.size)⟩
      · rw [dif_neg (by omega)] at his
        have hll : ¬ (lo : Int) < (fs.length : Int) := by omega
        have HIF := Lib.hid his
        subst e2
        have HE := Lib.hid e1
        clear e1 his HIS
        go_wp2
        refine bodyPost_ret (v := .tuple #[.int .i64 hi, .bool false]) (by simp [results, Try.results87, go_sem]) rfl ⟨by rw [HIF.out, ← HE.out], HF.out⟩

theorem bsf_none (a : Option Addr) (c : Nat) (n : ByteArray) (cl : Value) (w : World) :
    Calls Try.prog 87 #[.slice a 0 c, .string n, cl] w fun e w' => e = .returned (.tuple #[.int .i64 0, .bool false]) ∧ w = w' := by
  go_enter Try.func87, Try.ntmps87
  go_wp2
  refine wp_loop_rounds 1 ?_
  rw [rounds_succ]
  go_wp2
  refine bodyPost_ret (v := .tuple #[.int .i64 0, .bool false]) (by simp [results, Try.results87, go_sem]) rfl ⟨rfl, rfl⟩

set_option maxHeartbeats 4000000 in
set_option maxRecDepth 100000 in
theorem place_any {w : World} {fs : List Fd} {a : Option Addr} {c : Nat} (hf : FAt w All fs (.slice a fs.length c)) (hl : fs.length ≤ 100000) (hr : RiseP fs) (n : ByteArray) :
    Calls Try.prog 63 #[.slice a fs.length c, .string n] w fun e w' => e = .returned (.tuple #[.int .i64 (atF fs n : Nat), .bool (isF fs n)]) ∧ Below w.heap.size w w' := by
  have hb : Calls Try.prog 87 #[.slice a fs.length c, .string n, .func (.func 88) #[] #[]] w fun e w' => e = .returned (.tuple #[.int .i64 (atF fs n : Nat), .bool (isF fs n)]) ∧ Below w.heap.size w w' := by
    by_cases h0 : fs = []
    · subst h0
      refine (bsf_none a c n _ w).mono ?_
      rintro e w' ⟨rfl, rfl⟩
      exact ⟨rfl, Below.refl _ _⟩
    · obtain ⟨a', c', e, _, _, h⟩ := hf
      injection e with e1 _ e3
      subst e1
      subst e3
      rcases h with h | ⟨b, off, rfl, _, hlt, hC⟩
      · exact absurd h h0
      · exact bsf_some b off c fs n w hlt hC hl hr
  generalize atF fs n = i at hb
  generalize isF fs n = t at hb
  have HB := Lib.hid hb
  clear hb hf hr
  go_enter Try.func63, Try.ntmps63
  go_wp2_with fail
  refine HB.out.mono ?_
  rintro e w' ⟨rfl, hb⟩
  have HB1 := Lib.hid hb
  clear hb
  go_wp2
  refine bodyPost_ret (v := .tuple #[.int .i64 i, .bool t]) (by simp [results, Try.results63, go_sem]) rfl ⟨rfl, HB1.out⟩

end Go.Proofs.Ytcocljgafhpdaaa
end

section
namespace Go.Proofs.Ytcocljgafhpdaaa
open Go.RowKit

theorem slice_nil (a : Option Addr) (l c : Nat) (W : World) : (binOp .eql 22 (.slice a l c) (.slice none 0 0)).run Try.prog W = .ok (.bool a.isNone) W := by
  have h := run_equal_slice_nil (P := Try.prog) W 22 _ a l c Try.underlying22
  simp [binOp, h, Result.andThen]

theorem SrcAt.below {w w' : World} {P P' : Nat → Prop} {b off : Nat} {rows : List Fd} (h : SrcAt w P b off rows) (hlt : b < w.heap.size) (hBB : ∀ q, P q → P' q) (hb : Below w.heap.size w w') : SrcAt w' P' b off rows := fun i hi => by
  obtain ⟨lv, fv, h1, h2⟩ := h i hi
  exact ⟨lv, fv, h1.keep (hb.block b hlt), V.At.move (fun q hq hl => ⟨hBB q hq, hb.block q hl⟩) hb.size _ (Nat.le_refl _) h2⟩

set_option maxHeartbeats 4000000 in
set_option maxRecDepth 100000 in
theorem cloneF_any {w : World} {P : Nat → Prop} (hP : ∀ q, P q → q < w.heap.size) {rows : List Fd} {sa : Option Addr} {sc : Nat} (hm : rows.length ≤ 100000)
    (hs : rows = [] ∨ ∃ b off, sa = some ⟨b, off, none⟩ ∧ b < w.heap.size ∧ SrcAt w P b off rows) :
    Calls Try.prog 33 #[.slice sa rows.length sc] w fun e w' => ∃ v', e = .returned v' ∧ GRow w' w.heap.size P v' rows ∧ Below w.heap.size w w' := by
  cases sa with
  | none =>
    obtain rfl : rows = [] := hs.resolve_right fun ⟨b, off, e, _⟩ => by cases e
    have hnil := slice_nil none 0 sc
    simp only [Option.isNone_none] at hnil
    simp only [List.length_nil]
    go_enter Try.func33, Try.ntmps33
    go_wp2
    go_ret
    exact ⟨_, rfl, .inl ⟨[], World.ownsRow_nil w w.heap.size 30 7, fun i h => by simp at h⟩, Below.refl _ _⟩
  | some x =>
    have hA : Below w.heap.size w (w.alloc (.cells #[] 30)) := (Below.refl _ w).alloc (Nat.le_refl _) _
    have hg : GRow (w.alloc (.cells #[] 30)) w.heap.size P (.slice (some ⟨w.heap.size, 0, none⟩) 0 0) [] := .inl ⟨[], World.ownsRow_made w #[] 0 (Nat.le_refl _) (by decide) rfl, fun i h => by simp at h⟩
    obtain ⟨v', w', hr, hg', hb'⟩ := app_flds hP (sa := some x) (sc := sc) hg (by simp) hm (by simp) (hs.imp id fun ⟨b, off, e, hlt, hs⟩ => ⟨b, off, e, hs.below hlt (fun _ h => h) hA⟩) 22
    have hnil := slice_nil (some x) rows.length sc
    simp only [Option.isNone_some] at hnil
    have HF : Hid (GRow w' w.heap.size P v' rows ∧ Below w.heap.size w w') := Lib.hid ⟨by simpa using hg', hA.trans hb'⟩
    clear hA hg hg' hb' hs
    go_enter Try.func33, Try.ntmps33
    go_wp2_with (at_builtin; refine Lib.wpList_append_run _ rfl _ _ _ _ rfl _ _ rfl rfl _ _ hr ?_)
    go_ret
    exact ⟨_, rfl, HF.out.1, HF.out.2⟩

/-- six cells stored into a box: they are read back, with a new block behind or without -/
theorem box_ends {w : World} {b : Nat} {T : TypeId} {c0 c1 c2 c3 c4 c5 : Value} {z0 z1 z2 z3 z4 z5 : Value} (h : Box w b T #[z0, z1, z2, z3, z4, z5]) :
    (sets w b 0 [c0, c1, c2, c3, c4, c5]).cell? ⟨b, 0, none⟩ = some c0 ∧ (sets w b 0 [c0, c1, c2, c3, c4, c5]).cell? ⟨b, 1, none⟩ = some c1 ∧ (sets w b 0 [c0, c1, c2, c3, c4, c5]).cell? ⟨b, 2, none⟩ = some c2 ∧ (sets w b 0 [c0, c1, c2, c3, c4, c5]).cell? ⟨b, 3, none⟩ = some c3 ∧ (sets w b 0 [c0, c1, c2, c3, c4, c5]).cell? ⟨b, 4, none⟩ = some c4 ∧ (sets w b 0 [c0, c1, c2, c3, c4, c5]).cell? ⟨b, 5, none⟩ = some c5 := by
  have hF := Box.sets [c0, c1, c2, c3, c4, c5] 0 h
  obtain ⟨⟨k0, k1, k2, k3, k4, k5⟩, _⟩ := Box.six (c0 := c0) (c1 := c1) (c2 := c2) (c3 := c3) (c4 := c4) (c5 := c5) hF
  exact ⟨k0, k1, k2, k3, k4, k5⟩

theorem box_ends_alloc {w : World} {b : Nat} {T : TypeId} {c0 c1 c2 c3 c4 c5 : Value} {z0 z1 z2 z3 z4 z5 : Value} (h : Box w b T #[z0, z1, z2, z3, z4, z5]) (o : Obj) :
    ((sets w b 0 [c0, c1, c2, c3, c4, c5]).alloc o).cell? ⟨b, 0, none⟩ = some c0 ∧ ((sets w b 0 [c0, c1, c2, c3, c4, c5]).alloc o).cell? ⟨b, 1, none⟩ = some c1 ∧ ((sets w b 0 [c0, c1, c2, c3, c4, c5]).alloc o).cell? ⟨b, 2, none⟩ = some c2 ∧ ((sets w b 0 [c0, c1, c2, c3, c4, c5]).alloc o).cell? ⟨b, 3, none⟩ = some c3 ∧ ((sets w b 0 [c0, c1, c2, c3, c4, c5]).alloc o).cell? ⟨b, 4, none⟩ = some c4 ∧ ((sets w b 0 [c0, c1, c2, c3, c4, c5]).alloc o).cell? ⟨b, 5, none⟩ = some c5 := by
  obtain ⟨k0, k1, k2, k3, k4, k5⟩ := box_ends (c0 := c0) (c1 := c1) (c2 := c2) (c3 := c3) (c4 := c4) (c5 := c5) h
  have hlt : b < (sets w b 0 [c0, c1, c2, c3, c4, c5]).heap.size := by rw [sets_size]; exact h.lt
  have hA : Below (sets w b 0 [c0, c1, c2, c3, c4, c5]).heap.size (sets w b 0 [c0, c1, c2, c3, c4, c5]) ((sets w b 0 [c0, c1, c2, c3, c4, c5]).alloc o) := (Below.refl _ _).alloc (Nat.le_refl _) _
  exact ⟨(hA.cell (p := ⟨b, 0, none⟩) hlt).trans k0, (hA.cell (p := ⟨b, 1, none⟩) hlt).trans k1, (hA.cell (p := ⟨b, 2, none⟩) hlt).trans k2, (hA.cell (p := ⟨b, 3, none⟩) hlt).trans k3, (hA.cell (p := ⟨b, 4, none⟩) hlt).trans k4, (hA.cell (p := ⟨b, 5, none⟩) hlt).trans k5⟩

theorem below_ends {w w1 : World} {b : Nat} (h : Below w.heap.size w w1) (hb : w.heap.size ≤ b) (cs : List Value) : Below w.heap.size w (sets w1 b 0 cs) := Below.sets cs 0 h hb
theorem below_ends_alloc {w w1 : World} {b : Nat} (h : Below w.heap.size w w1) (hb : w.heap.size ≤ b) (cs : List Value) (o : Obj) : Below w.heap.size w ((sets w1 b 0 cs).alloc o) := (below_ends h hb cs).alloc (below_ends h hb cs).size _

theorem at_ends {v : V} {w1 : World} {S S' : Nat → Prop} {lv fv : Value} {b : Nat} (h : v.At w1 S lv fv) (hS : ∀ q, S q → q ≠ b ∧ S' q) (cs : List Value) : v.At (sets w1 b 0 cs) S' lv fv :=
  V.At.move (fun q hq _ => ⟨(hS q hq).2, sets_far _ _ _ _ (hS q hq).1⟩) (by rw [sets_size]; exact Nat.le_refl _) _ (Nat.le_refl _) h
theorem at_ends_alloc {v : V} {w1 : World} {S S' : Nat → Prop} {lv fv : Value} {b : Nat} (h : v.At w1 S lv fv) (hS : ∀ q, S q → q ≠ b ∧ S' q) (cs : List Value) (o : Obj) : v.At ((sets w1 b 0 cs).alloc o) S' lv fv :=
  (at_ends h hS cs).below ((Below.refl _ _).alloc (Nat.le_refl _) _)

/-- what a call gives that makes a value, or none, or tells an error -/
def FResP (r : Except Int (Option V)) (S : Nat → Prop) (w : World) (e : Ending) (w' : World) : Prop :=
  Below w.heap.size w w' ∧ match r with
  | .ok (some v) => ∃ a c a' c', e = .returned (.tuple #[.agg #[.int .i64 v.kind, .bool v.yes, .int .i64 v.num, .string v.text, .slice a v.list.length c, .slice a' v.fields.length c'], .bool true, .int .i64 0]) ∧ v.At w' (fun q => S q ∨ w.heap.size ≤ q) (.slice a v.list.length c) (.slice a' v.fields.length c')
  | .ok none => e = .returned (.tuple #[.agg #[.int .i64 0, .bool false, .int .i64 0, .string ⟨#[]⟩, .slice none 0 0, .slice none 0 0], .bool false, .int .i64 0])
  | .error c => c ≠ 0 ∧ ∃ b, e = .returned (.tuple #[.agg #[.int .i64 0, .bool false, .int .i64 0, .string ⟨#[]⟩, .slice none 0 0, .slice none 0 0], .bool b, .int .i64 c])

set_option maxHeartbeats 4000000 in
set_option maxRecDepth 100000 in
theorem field_last (o : PO) (pa : Option Addr) (pl pc : Nat) (oa : Option Addr) (oc : Nat) (ob : Option Addr) (od : Nat) (x : V) (la : Option Addr) (lc : Nat) (fa : Option Addr) (fc : Nat) (t : Bool) (ra : Option Addr) (rc : Nat) (w : World) (S : Nat → Prop) (hS : ∀ q, S q → q < w.heap.size)
    (ho : o.val.At w S (.slice oa o.val.list.length oc) (.slice ob o.val.fields.length od)) (hx6 : Is64 x.num) (ho6 : Is64 o.val.num) :
    Calls Try.prog 64 #[.agg #[.int .i64 o.kind, .slice pa pl pc, .int .i64 o.val.kind, .bool o.val.yes, .int .i64 o.val.num, .string o.val.text, .slice oa o.val.list.length oc, .slice ob o.val.fields.length od], .agg #[.int .i64 x.kind, .bool x.yes, .int .i64 x.num, .string x.text, .slice la x.list.length lc, .slice fa x.fields.length fc], .bool t, .slice ra 0 rc] w (FResP (lastV o x t) S w) := by
  have hb3 : ∀ c3 c2 c1, Below w.heap.size w (((w.alloc (.cells c1 50)).alloc (.cells c2 26)).alloc (.cells c3 26)) := fun c3 c2 c1 => (((Below.refl _ w).alloc (Nat.le_refl _) _).alloc (by simp) _).alloc (by simp; omega) _
  have HB := Lib.hid hb3
  have HO := Lib.hid ho
  have HSS := Lib.hid hS
  clear hb3 ho hS
  by_cases k1 : o.kind = 1
  · have hr : lastV o x t = .ok (some o.val) := by unfold lastV; rw [if_pos k1]
    rw [hr]
    have g1 : (o.kind == 1) = true := by rw [beq_iff_eq]; exact k1
    clear hr k1
    go_enter Try.func64, Try.ntmps64
    go_wp2
    refine bodyPost_ret (v := .tuple #[.agg #[.int .i64 o.val.kind, .bool o.val.yes, .int .i64 o.val.num, .string o.val.text, .slice oa o.val.list.length oc, .slice ob o.val.fields.length od], .bool true, .int .i64 0]) (by simp [results, Try.results64, go_sem]) rfl ⟨HB.out _ _ _, _, _, _, _, rfl, (HO.out.below (HB.out _ _ _)).wider fun q hq => .inl hq⟩
  have g1 : (o.kind == 1) = false := by rw [beq_eq_false_iff_ne]; exact k1
  cases t with
  | false =>
    have hr : lastV o x false = .error 5 := by unfold lastV; rw [if_neg k1, if_pos rfl]
    rw [hr]
    clear hr k1
    go_enter Try.func64, Try.ntmps64
    go_wp2
    refine bodyPost_ret (v := .tuple #[.agg #[.int .i64 0, .bool false, .int .i64 0, .string ⟨#[]⟩, .slice none 0 0, .slice none 0 0], .bool false, .int .i64 5]) (by simp [results, Try.results64, go_sem]) rfl ⟨HB.out _ _ _, by decide, _, rfl⟩
  | true =>
    by_cases k2 : o.kind = 2
    · have hr : lastV o x true = .ok none := by unfold lastV; rw [if_neg k1, if_neg (by decide), if_pos k2]
      rw [hr]
      have g2 : (o.kind == 2) = true := by rw [beq_iff_eq]; exact k2
      clear hr k1 k2
      go_enter Try.func64, Try.ntmps64
      go_wp2
      refine bodyPost_ret (v := .tuple #[.agg #[.int .i64 0, .bool false, .int .i64 0, .string ⟨#[]⟩, .slice none 0 0, .slice none 0 0], .bool false, .int .i64 0]) (by simp [results, Try.results64, go_sem]) rfl ⟨HB.out _ _ _, rfl⟩
    · have hr : lastV o x true = (addV x o.val.num).map some := by unfold lastV; rw [if_neg k1, if_neg (by decide), if_neg k2]
      rw [hr]
      have g2 : (o.kind == 2) = false := by rw [beq_eq_false_iff_ne]; exact k2
      have hadd := fun W => add_any x la x.list.length lc fa x.fields.length fc o.val.num W hx6 ho6 S
      have HADD := Lib.hid hadd
      clear hr k1 k2 hadd hx6 ho6
      go_enter Try.func64, Try.ntmps64
      go_wp2_with fail
      refine (HADD.out _).mono ?_
      rintro e w1 ⟨hb1, h⟩
      have hZ1 : Box w1 (w.heap.size + 1 + 1) 26 #[.int .i64 0, .bool false, .int .i64 0, .string ⟨#[]⟩, .slice none 0 0, .slice none 0 0] := by
        have h9 := Box.new ((w.alloc (.cells #[.int .i64 o.kind, .slice pa pl pc, .int .i64 o.val.kind, .bool o.val.yes, .int .i64 o.val.num, .string o.val.text, .slice oa o.val.list.length oc, .slice ob o.val.fields.length od] 50)).alloc (.cells #[.int .i64 x.kind, .bool x.yes, .int .i64 x.num, .string x.text, .slice la x.list.length lc, .slice fa x.fields.length fc] 26)) 26 #[.int .i64 0, .bool false, .int .i64 0, .string ⟨#[]⟩, .slice none 0 0, .slice none 0 0]
        rw [show ((w.alloc (.cells #[.int .i64 o.kind, .slice pa pl pc, .int .i64 o.val.kind, .bool o.val.yes, .int .i64 o.val.num, .string o.val.text, .slice oa o.val.list.length oc, .slice ob o.val.fields.length od] 50)).alloc (.cells #[.int .i64 x.kind, .bool x.yes, .int .i64 x.num, .string x.text, .slice la x.list.length lc, .slice fa x.fields.length fc] 26)).heap.size = w.heap.size + 1 + 1 by simp] at h9
        exact (hb1.block _ (by simp)).trans h9
      have hb01 : Below w.heap.size w w1 := (HB.out _ _ _).trans (hb1.mono (HB.out _ _ _).size)
      have hge : w.heap.size ≤ w.heap.size + 1 + 1 := by omega
      have hsz : (((w.alloc (.cells #[.int .i64 o.kind, .slice pa pl pc, .int .i64 o.val.kind, .bool o.val.yes, .int .i64 o.val.num, .string o.val.text, .slice oa o.val.list.length oc, .slice ob o.val.fields.length od] 50)).alloc (.cells #[.int .i64 x.kind, .bool x.yes, .int .i64 x.num, .string x.text, .slice la x.list.length lc, .slice fa x.fields.length fc] 26)).alloc (.cells #[.int .i64 0, .bool false, .int .i64 0, .string ⟨#[]⟩, .slice none 0 0, .slice none 0 0] 26)).heap.size = w.heap.size + 1 + 1 + 1 := by simp
      rw [hsz] at h
      obtain ⟨⟨z0, z1, z2, z3, z4, z5⟩, s0, s1, s2, s3, s4, s5⟩ := hZ1.six
      have hzl := hZ1.lt
      clear hb1 hsz
      cases hadd : addV x o.val.num with
      | error c =>
        rw [hadd] at h
        obtain ⟨hc, rfl⟩ := h
        obtain ⟨k0, k1, k2, k3, k4, k5⟩ := box_ends_alloc (c0 := .int .i64 0) (c1 := .bool false) (c2 := .int .i64 0) (c3 := .string ⟨#[]⟩) (c4 := .slice none 0 0) (c5 := .slice none 0 0) hZ1 (.cells #[.int .i64 0, .bool false, .int .i64 0, .string ⟨#[]⟩, .slice none 0 0, .slice none 0 0] 26)
        simp only [sets, Nat.zero_add, Nat.reduceAdd] at k0 k1 k2 k3 k4 k5
        have HO2 : Hid (FResP ((addV x o.val.num).map some) S w (.returned (.tuple #[.agg #[.int .i64 0, .bool false, .int .i64 0, .string ⟨#[]⟩, .slice none 0 0, .slice none 0 0], .bool true, .int .i64 c])) ((sets w1 (w.heap.size + 1 + 1) 0 [.int .i64 0, .bool false, .int .i64 0, .string ⟨#[]⟩, .slice none 0 0, .slice none 0 0]).alloc (.cells #[.int .i64 0, .bool false, .int .i64 0, .string ⟨#[]⟩, .slice none 0 0, .slice none 0 0] 26))) := Lib.hid (by rw [hadd]; exact ⟨below_ends_alloc hb01 hge _ _, hc, _, rfl⟩)
        clear hZ1 hb01 hge hc hadd
        go_wp2
        refine bodyPost_ret (v := .tuple #[.agg #[.int .i64 0, .bool false, .int .i64 0, .string ⟨#[]⟩, .slice none 0 0, .slice none 0 0], .bool true, .int .i64 c]) (by simp [results, Try.results64, go_sem, k0, k1, k2, k3, k4, k5]) rfl HO2.out
      | ok v =>
        rw [hadd] at h
        obtain ⟨a, c, a', c', rfl, hat⟩ := h
        obtain ⟨k0, k1, k2, k3, k4, k5⟩ := box_ends_alloc (c0 := .int .i64 v.kind) (c1 := .bool v.yes) (c2 := .int .i64 v.num) (c3 := .string v.text) (c4 := .slice a v.list.length c) (c5 := .slice a' v.fields.length c') hZ1 (.cells #[.int .i64 v.kind, .bool v.yes, .int .i64 v.num, .string v.text, .slice a v.list.length c, .slice a' v.fields.length c'] 26)
        simp only [sets, Nat.zero_add, Nat.reduceAdd] at k0 k1 k2 k3 k4 k5
        have HO2 : Hid (FResP ((addV x o.val.num).map some) S w (.returned (.tuple #[.agg #[.int .i64 v.kind, .bool v.yes, .int .i64 v.num, .string v.text, .slice a v.list.length c, .slice a' v.fields.length c'], .bool true, .int .i64 0])) ((sets w1 (w.heap.size + 1 + 1) 0 [.int .i64 v.kind, .bool v.yes, .int .i64 v.num, .string v.text, .slice a v.list.length c, .slice a' v.fields.length c']).alloc (.cells #[.int .i64 v.kind, .bool v.yes, .int .i64 v.num, .string v.text, .slice a v.list.length c, .slice a' v.fields.length c'] 26))) := Lib.hid (by rw [hadd]; exact ⟨below_ends_alloc hb01 hge _ _, a, c, a', c', rfl, at_ends_alloc hat (fun q hq => hq.elim (fun h => ⟨by have := HSS.out q h; omega, .inl h⟩) (fun h => ⟨by omega, .inr (by omega)⟩)) _ _⟩)
        clear hZ1 hb01 hge hadd hat
        go_wp2
        refine bodyPost_ret (v := .tuple #[.agg #[.int .i64 v.kind, .bool v.yes, .int .i64 v.num, .string v.text, .slice a v.list.length c, .slice a' v.fields.length c'], .bool true, .int .i64 0]) (by simp [results, Try.results64, go_sem, k0, k1, k2, k3, k4, k5]) rfl HO2.out

end Go.Proofs.Ytcocljgafhpdaaa
end

section
namespace Go.Proofs.Ytcocljgafhpdaaa
open Go.RowKit

attribute [local irreducible] wpStill
attribute [-go_sem] Builtin.append_

theorem box_sets6 {w : World} {b : Nat} {T : TypeId} {z0 z1 z2 z3 z4 z5 : Value} (h : Box w b T #[z0, z1, z2, z3, z4, z5]) (c0 c1 c2 c3 c4 c5 : Value) : Box (sets w b 0 [c0, c1, c2, c3, c4, c5]) b T #[c0, c1, c2, c3, c4, c5] := by
  have h1 := Box.sets [c0, c1, c2, c3, c4, c5] 0 h
  rw [show aset #[z0, z1, z2, z3, z4, z5] 0 [c0, c1, c2, c3, c4, c5] = #[c0, c1, c2, c3, c4, c5] by simp [aset]] at h1
  exact h1

/-- the first of a value's fields, and the others, as they lie -/
theorem src_of {w : World} {S : Nat → Prop} {f : List Fd} {fa : Option Addr} {fc : Nat} (h : FAt w S f (.slice fa f.length fc)) : f.length ≤ fc ∧ (fa = none → f = []) ∧ (f = [] ∨ ∃ b off, fa = some ⟨b, off, none⟩ ∧ b < w.heap.size ∧ SrcAt w S b off f) := by
  obtain ⟨a', c', e, h1, _, h2⟩ := h
  injection e with e1 _ e3
  subst e1
  subst e3
  refine ⟨h1, (fun e => h2.resolve_right fun ⟨b, off, e2, _⟩ => by rw [e] at e2; cases e2), h2.imp id fun ⟨b, off, e2, _, hlt, hC⟩ => ⟨b, off, e2, hlt, fun i hi => hC.get hi⟩⟩

theorem SrcAt.take {w : World} {S : Nat → Prop} {f : List Fd} {b off : Nat} (h : SrcAt w S b off f) (i : Nat) : SrcAt w S b off (f.take i) := fun j hj => by
  rw [List.length_take] at hj
  have := h j (by omega)
  rw [List.getElem_take]
  exact this

theorem SrcAt.drop {w : World} {S : Nat → Prop} {f : List Fd} {b off : Nat} (h : SrcAt w S b off f) (i : Nat) : SrcAt w S b (off + i * 7) (f.drop i) := fun j hj => by
  rw [List.length_drop] at hj
  have := h (i + j) (by omega)
  rw [List.getElem_drop]
  rw [show off + i * 7 + j * 7 = off + (i + j) * 7 by omega]
  exact this

theorem SrcAt.belowB {w w' : World} {P : Nat → Prop} {B b off : Nat} {rows : List Fd} (h : SrcAt w P b off rows) (hlt : b < B) (hP : ∀ q, P q → q < B) (hb : Below B w w') : SrcAt w' P b off rows := fun i hi => by
  obtain ⟨lv, fv, h1, h2⟩ := h i hi
  exact ⟨lv, fv, h1.keep (hb.block b hlt), V.At.move (fun q hq _ => ⟨hq, hb.block q (hP q hq)⟩) hb.size _ (Nat.le_refl _) h2⟩

theorem SrcAt.wider {w : World} {S S' : Nat → Prop} {f : List Fd} {b off : Nat} (h : SrcAt w S b off f) (hS : ∀ q, S q → S' q) : SrcAt w S' b off f := fun j hj => by
  obtain ⟨lv, fv, h1, h2⟩ := h j hj
  exact ⟨lv, fv, h1, h2.wider hS⟩

/-- the boxes of along -/
def AS (w : World) (oc vc : Array Value) (pb poff : Nat) (n : ByteArray) (W : World) : Prop :=
  Box W w.heap.size 50 oc ∧ Box W (w.heap.size + 1) 26 vc ∧ Box W (w.heap.size + 1 + 1) 26 #[.int .i64 0, .bool false, .int .i64 0, .string ⟨#[]⟩, .slice none 0 0, .slice none 0 0] ∧ (W.cell? ⟨pb, poff, none⟩ = some (.string n) ∧ pb < w.heap.size) ∧ Below w.heap.size w W

theorem AS.size {w W : World} {oc vc : Array Value} {pb poff : Nat} {n : ByteArray} (h : AS w oc vc pb poff n W) : w.heap.size + 3 ≤ W.heap.size := by have := h.2.2.1.lt; omega

theorem AS.below {w W W' : World} {oc vc : Array Value} {pb poff : Nat} {n : ByteArray} (h : AS w oc vc pb poff n W) (hb : Below W.heap.size W W') : AS w oc vc pb poff n W' :=
  ⟨(hb.block _ h.1.lt).trans h.1, (hb.block _ h.2.1.lt).trans h.2.1, (hb.block _ h.2.2.1.lt).trans h.2.2.1, ⟨(hb.cell (p := ⟨pb, poff, none⟩) (Nat.lt_of_lt_of_le h.2.2.2.1.2 h.2.2.2.2.size)).trans h.2.2.2.1.1, h.2.2.2.1.2⟩, h.2.2.2.2.trans (hb.mono h.2.2.2.2.size)⟩

theorem AS.sets {w W : World} {oc vc : Array Value} {pb poff : Nat} {n : ByteArray} (h : AS w oc vc pb poff n W) {b : Nat} (hb : w.heap.size + 3 ≤ b) (cs : List Value) : AS w oc vc pb poff n (Proofs.Ytcocljgafhpdaaa.sets W b 0 cs) := by
  obtain ⟨h1, h2, h3, ⟨h4, h5⟩, h6⟩ := h
  have hf : ∀ q, q < w.heap.size + 3 → (Proofs.Ytcocljgafhpdaaa.sets W b 0 cs).heap[q]? = W.heap[q]? := fun q hq => sets_far _ _ _ _ (by omega)
  exact ⟨(hf _ (by omega)).trans h1, (hf _ (by omega)).trans h2, (hf _ (by omega)).trans h3, ⟨(World.cell?_of_block (a := ⟨pb, poff, none⟩) (hf pb (by omega))).trans h4, h5⟩, Below.sets cs 0 h6 (by omega)⟩

theorem AS.belowB {w W W' : World} {oc vc : Array Value} {pb poff B : Nat} {n : ByteArray} (h : AS w oc vc pb poff n W) (hB : w.heap.size + 3 ≤ B) (hb : Below B W W') : AS w oc vc pb poff n W' := by
  obtain ⟨h1, h2, h3, ⟨h4, h5⟩, h6⟩ := h
  exact ⟨(hb.block _ (by omega)).trans h1, (hb.block _ (by omega)).trans h2, (hb.block _ (by omega)).trans h3, ⟨(World.cell?_of_block (a := ⟨pb, poff, none⟩) (hb.block pb (by omega))).trans h4, h5⟩, h6.trans (hb.mono (by omega))⟩

/-- what the call of field left -/
def R2 (r : Except Int (Option V)) (S : Nat → Prop) (xb : Nat) (st : Bool) (ec : Int) (wx : World) : Prop :=
  match r with
  | .error c => ec = c ∧ c ≠ 0
  | .ok none => st = false ∧ ec = 0
  | .ok (some y) => st = true ∧ ec = 0 ∧ ∃ ya yc yb yd, Box wx xb 26 #[.int .i64 y.kind, .bool y.yes, .int .i64 y.num, .string y.text, .slice ya y.list.length yc, .slice yb y.fields.length yd] ∧ y.At wx S (.slice ya y.list.length yc) (.slice yb y.fields.length yd)

theorem Box.eight {w : World} {b : Nat} {T : TypeId} {c0 c1 c2 c3 c4 c5 c6 c7 : Value} (h : Box w b T #[c0, c1, c2, c3, c4, c5, c6, c7]) :
    w.cell? ⟨b, 0, none⟩ = some c0 ∧ w.cell? ⟨b, 1, none⟩ = some c1 ∧ w.cell? ⟨b, 2, none⟩ = some c2 ∧ w.cell? ⟨b, 3, none⟩ = some c3 ∧ w.cell? ⟨b, 4, none⟩ = some c4 ∧ w.cell? ⟨b, 5, none⟩ = some c5 ∧ w.cell? ⟨b, 6, none⟩ = some c6 ∧ w.cell? ⟨b, 7, none⟩ = some c7 := by
  refine ⟨?_, ?_, ?_, ?_, ?_, ?_, ?_, ?_⟩ <;> (rw [h.cell]; rfl)

theorem str_lo (b off n c : Nat) (h : 1 ≤ n) (h2 : n ≤ c) : ∃ off', (∀ W, (Instr.slice 48 (.slice (some ⟨b, off, none⟩) n c) (some (.int .i64 1)) none none).run Try.prog W = .ok (.slice (some ⟨b, off', none⟩) (n - 1) (c - 1)) W) ∧ (1 < n → off' = off + 1) := by
  have h1 : (1 : Int) ≤ (n : Int) := by omega
  have h3 : (n : Int) ≤ (c : Int) := by omega
  by_cases hc : c = 1
  · refine ⟨off, fun W => ?_, fun h => by omega⟩
    subst hc
    go_simp
  · refine ⟨off + 1, fun W => ?_, fun _ => rfl⟩
    go_simp

set_option maxHeartbeats 8000000 in
set_option maxRecDepth 100000 in
theorem along_core (o : PO) (n : ByteArray) (m : Nat) (r : Except Int (Option V)) (v : V) (pa : Option Addr) (pl pc : Nat) (oa : Option Addr) (oc : Nat) (ob : Option Addr) (od : Nat) (la : Option Addr) (lc : Nat) (fa : Option Addr) (fc : Nat) (pb poff pk : Nat) (k : Nat) (w : World) (S : Nat → Prop) (hS : ∀ q, S q → q < w.heap.size)
    (hv : v.At w S (.slice la v.list.length lc) (.slice fa v.fields.length fc)) (hpb : pb < w.heap.size) (hn : w.cell? ⟨pb, poff, none⟩ = some (.string n)) (hm : m + 1 ≤ pk) (hok : v.okv k) (hk : k ≤ 90000)
    (hfield : ∀ (W : World) xa xc xb xd off', Below w.heap.size w W → (valF v.fields n).At W S (.slice xa (valF v.fields n).list.length xc) (.slice xb (valF v.fields n).fields.length xd) → (0 < m → off' = poff + 1) →
      Calls Try.prog 64 #[.agg #[.int .i64 o.kind, .slice pa pl pc, .int .i64 o.val.kind, .bool o.val.yes, .int .i64 o.val.num, .string o.val.text, .slice oa o.val.list.length oc, .slice ob o.val.fields.length od], .agg #[.int .i64 (valF v.fields n).kind, .bool (valF v.fields n).yes, .int .i64 (valF v.fields n).num, .string (valF v.fields n).text, .slice xa (valF v.fields n).list.length xc, .slice xb (valF v.fields n).fields.length xd], .bool (isF v.fields n), .slice (some ⟨pb, off', none⟩) m (pk - 1)] W (FResP r S W)) :
    Calls Try.prog 43 #[.agg #[.int .i64 o.kind, .slice pa pl pc, .int .i64 o.val.kind, .bool o.val.yes, .int .i64 o.val.num, .string o.val.text, .slice oa o.val.list.length oc, .slice ob o.val.fields.length od], .agg #[.int .i64 v.kind, .bool v.yes, .int .i64 v.num, .string v.text, .slice la v.list.length lc, .slice fa v.fields.length fc], .slice (some ⟨pb, poff, none⟩) (m + 1) pk] w
      (ResP (if v.kind ≠ 5 then .error 5 else r.map fun y => v.setF (putV v.fields n y)) S w) := by
  have hb3 : Below w.heap.size w (((w.alloc (.cells #[.int .i64 o.kind, .slice pa pl pc, .int .i64 o.val.kind, .bool o.val.yes, .int .i64 o.val.num, .string o.val.text, .slice oa o.val.list.length oc, .slice ob o.val.fields.length od] 50)).alloc (.cells #[.int .i64 v.kind, .bool v.yes, .int .i64 v.num, .string v.text, .slice la v.list.length lc, .slice fa v.fields.length fc] 26)).alloc (.cells #[.int .i64 0, .bool false, .int .i64 0, .string ⟨#[]⟩, .slice none 0 0, .slice none 0 0] 26)) := (((Below.refl _ w).alloc (Nat.le_refl _) _).alloc (by simp) _).alloc (by simp; omega) _
  have HSS := Lib.hid hS
  clear hS
  by_cases hk5 : v.kind = 5
  · have g1 : (v.kind != 5) = false := by simp [hk5]
    obtain ⟨⟨hol, hof, horise, honum⟩, hokl, hokf⟩ := okv_iff.1 hok
    have hfa := (V.at_iff.1 hv).2
    have hplace := place_any ((FAt.move (fun b _ hlt => ⟨trivial, hb3.drew.block b hlt⟩) hb3.drew.size hfa : FAt (((w.alloc (.cells #[.int .i64 o.kind, .slice pa pl pc, .int .i64 o.val.kind, .bool o.val.yes, .int .i64 o.val.num, .string o.val.text, .slice oa o.val.list.length oc, .slice ob o.val.fields.length od] 50)).alloc (.cells #[.int .i64 v.kind, .bool v.yes, .int .i64 v.num, .string v.text, .slice la v.list.length lc, .slice fa v.fields.length fc] 26)).alloc (.cells #[.int .i64 0, .bool false, .int .i64 0, .string ⟨#[]⟩, .slice none 0 0, .slice none 0 0] 26)).drew All v.fields _)) (by omega) horise n
    have hp1 : pb < w.heap.size + 1 := by omega
    have hp2 : pb < w.heap.size + 1 + 1 := by omega
    have hp3 : ¬ pb = w.heap.size := by omega
    have hp4 : ¬ pb = w.heap.size + 1 := by omega
    have hp5 : ¬ pb = w.heap.size + 1 + 1 := by omega
    have hpk : (1 : Int) ≤ (pk : Int) := by omega
    have hm1 : (0 : Int) < ((m + 1 : Nat) : Int) := by omega
    have HB := Lib.hid hb3
    have HP := Lib.hid hplace
    have HV := Lib.hid (And.intro hv hok)
    have HFD := Lib.hid hfield
    rw [if_neg (by simpa using hk5)]
    clear hb3 hfield hv hok hplace hol hof horise honum hokl hokf hfa hk5
    go_enter Try.func43, Try.ntmps43
    go_wp2_with fail
    refine wp_region_mid 5 _ (by kernel_rfl) (by kernel_rfl) rfl ?_
    change wpStill _ _ (World.drew _) (fun a' => MidCall _ _ _ _ _ a' (World.drew _)) _ _
    simp only [List.take_succ_cons, List.take_zero, List.drop_succ_cons, List.drop_zero]
    repeat still_step
    refine wpStill_nil ?_
    refine midCall_of (by rfl) _ _ ?_ HP.out ?_
    · go_simp
    rintro w1 hb1
    have hb01 : Below w.heap.size w w1 := HB.out.drew.trans (hb1.mono HB.out.drew.size)
    have hAS : AS w #[.int .i64 o.kind, .slice pa pl pc, .int .i64 o.val.kind, .bool o.val.yes, .int .i64 o.val.num, .string o.val.text, .slice oa o.val.list.length oc, .slice ob o.val.fields.length od] #[.int .i64 v.kind, .bool v.yes, .int .i64 v.num, .string v.text, .slice la v.list.length lc, .slice fa v.fields.length fc] pb poff n w1 := by
      have e1 := Box.new (w.alloc (.cells #[.int .i64 o.kind, .slice pa pl pc, .int .i64 o.val.kind, .bool o.val.yes, .int .i64 o.val.num, .string o.val.text, .slice oa o.val.list.length oc, .slice ob o.val.fields.length od] 50)) 26 #[.int .i64 v.kind, .bool v.yes, .int .i64 v.num, .string v.text, .slice la v.list.length lc, .slice fa v.fields.length fc]
      have e2 := Box.new ((w.alloc (.cells #[.int .i64 o.kind, .slice pa pl pc, .int .i64 o.val.kind, .bool o.val.yes, .int .i64 o.val.num, .string o.val.text, .slice oa o.val.list.length oc, .slice ob o.val.fields.length od] 50)).alloc (.cells #[.int .i64 v.kind, .bool v.yes, .int .i64 v.num, .string v.text, .slice la v.list.length lc, .slice fa v.fields.length fc] 26)) 26 #[.int .i64 0, .bool false, .int .i64 0, .string ⟨#[]⟩, .slice none 0 0, .slice none 0 0]
      rw [show (w.alloc (.cells #[.int .i64 o.kind, .slice pa pl pc, .int .i64 o.val.kind, .bool o.val.yes, .int .i64 o.val.num, .string o.val.text, .slice oa o.val.list.length oc, .slice ob o.val.fields.length od] 50)).heap.size = w.heap.size + 1 by simp] at e1
      rw [show ((w.alloc (.cells #[.int .i64 o.kind, .slice pa pl pc, .int .i64 o.val.kind, .bool o.val.yes, .int .i64 o.val.num, .string o.val.text, .slice oa o.val.list.length oc, .slice ob o.val.fields.length od] 50)).alloc (.cells #[.int .i64 v.kind, .bool v.yes, .int .i64 v.num, .string v.text, .slice la v.list.length lc, .slice fa v.fields.length fc] 26)).heap.size = w.heap.size + 1 + 1 by simp] at e2
      have e0 := ((Box.new w 50 #[.int .i64 o.kind, .slice pa pl pc, .int .i64 o.val.kind, .bool o.val.yes, .int .i64 o.val.num, .string o.val.text, .slice oa o.val.list.length oc, .slice ob o.val.fields.length od]).alloc (.cells #[.int .i64 v.kind, .bool v.yes, .int .i64 v.num, .string v.text, .slice la v.list.length lc, .slice fa v.fields.length fc] 26)).alloc (.cells #[.int .i64 0, .bool false, .int .i64 0, .string ⟨#[]⟩, .slice none 0 0, .slice none 0 0] 26)
      have e1' := e1.alloc (.cells #[.int .i64 0, .bool false, .int .i64 0, .string ⟨#[]⟩, .slice none 0 0, .slice none 0 0] 26)
      exact ⟨(hb1.block _ e0.lt).trans e0, (hb1.block _ e1'.lt).trans e1', (hb1.block _ e2.lt).trans e2, ⟨(hb01.cell (p := ⟨pb, poff, none⟩) hpb).trans hn, hpb⟩, hb01⟩
    have HX3 : Hid (w.heap.size + 3 ≤ w1.heap.size) := Lib.hid (by have h9 := hb1.size; rw [show (((w.alloc (.cells #[.int .i64 o.kind, .slice pa pl pc, .int .i64 o.val.kind, .bool o.val.yes, .int .i64 o.val.num, .string o.val.text, .slice oa o.val.list.length oc, .slice ob o.val.fields.length od] 50)).alloc (.cells #[.int .i64 v.kind, .bool v.yes, .int .i64 v.num, .string v.text, .slice la v.list.length lc, .slice fa v.fields.length fc] 26)).alloc (.cells #[.int .i64 0, .bool false, .int .i64 0, .string ⟨#[]⟩, .slice none 0 0, .slice none 0 0] 26)).drew.heap.size = (((w.alloc (.cells #[.int .i64 o.kind, .slice pa pl pc, .int .i64 o.val.kind, .bool o.val.yes, .int .i64 o.val.num, .string o.val.text, .slice oa o.val.list.length oc, .slice ob o.val.fields.length od] 50)).alloc (.cells #[.int .i64 v.kind, .bool v.yes, .int .i64 v.num, .string v.text, .slice la v.list.length lc, .slice fa v.fields.length fc] 26)).alloc (.cells #[.int .i64 0, .bool false, .int .i64 0, .string ⟨#[]⟩, .slice none 0 0, .slice none 0 0] 26)).heap.size from rfl, show (((w.alloc (.cells #[.int .i64 o.kind, .slice pa pl pc, .int .i64 o.val.kind, .bool o.val.yes, .int .i64 o.val.num, .string o.val.text, .slice oa o.val.list.length oc, .slice ob o.val.fields.length od] 50)).alloc (.cells #[.int .i64 v.kind, .bool v.yes, .int .i64 v.num, .string v.text, .slice la v.list.length lc, .slice fa v.fields.length fc] 26)).alloc (.cells #[.int .i64 0, .bool false, .int .i64 0, .string ⟨#[]⟩, .slice none 0 0, .slice none 0 0] 26)).heap.size = w.heap.size + 3 by simp] at h9; exact h9)
    clear hn hpb hb1 hp1 hp2 hp3 hp4 hp5
    repeat still_step
    refine wpStill_nil ?_
    obtain ⟨off', hlo, hoff⟩ := str_lo pb poff (m + 1) pk (by omega) hm
    simp only [Nat.add_sub_cancel] at hlo
    have HOFF := Lib.hid hoff
    obtain ⟨i, hi⟩ : ∃ i, i = atF v.fields n := ⟨_, rfl⟩
    obtain ⟨t, ht⟩ : ∃ t, t = isF v.fields n := ⟨_, rfl⟩
    obtain ⟨x, hx⟩ : ∃ x, x = valF v.fields n := ⟨_, rfl⟩
    rw [← hi, ← ht]
    have hi0 : i ≤ v.fields.length := by rw [hi]; exact atF_le _ _
    have hx3 : w.heap.size + 3 ≤ w1.heap.size := by have := HX3.out; omega
    have HI := Lib.hid (And.intro hi (And.intro ht (And.intro hx (And.intro hi0 hx3))))
    have HAS := Lib.hid hAS
    have hfw := V.At.below HV.out.1 hb01
    have HFW := Lib.hid hfw
    have HT : Hid (t = true → ∃ hil : i < v.fields.length, x = (v.fields[i]).2) := Lib.hid fun h => by
      obtain ⟨hil, _, hval⟩ := isF_true (n := n) (okv_iff.1 HV.out.2).1.2.2.1 (by rw [← ht]; exact h)
      simp only [← hi, ← hx] at hil hval
      exact ⟨hil, hval⟩
    have HN : Hid (t = false → x = V.null) := Lib.hid fun h => by rw [hx]; exact isF_false (by rw [← ht]; exact h)
    have HJL : Hid (i + (if t then 1 else 0) ≤ v.fields.length) := Lib.hid (by
      cases t with
      | true => obtain ⟨h, _⟩ := HT.out rfl; simp; omega
      | false => simpa using HI.out.2.2.2.1)
    rw [← ht, ← hx] at HFD
    obtain ⟨⟨v0, v1, v2, v3, v4, v5⟩, _⟩ := hAS.2.1.six
    have hl1 := hAS.2.1.lt
    have hi9 : i ≤ 90000 := by have := (okv_iff.1 HV.out.2).1.2.1; omega
    clear hi ht hx hi0 hx3 hoff hfw hAS hb01 HP HB
    go_upto_if 29 with (fail)
    go_cut [11] (fun j wx => ∃ xa xc xb xd, j = .int .i64 ((i + if t then 1 else 0 : Nat) : Int) ∧ Hid (Box wx w1.heap.size 26 #[.int .i64 x.kind, .bool x.yes, .int .i64 x.num, .string x.text, .slice xa x.list.length xc, .slice xb x.fields.length xd] ∧ AS w #[.int .i64 o.kind, .slice pa pl pc, .int .i64 o.val.kind, .bool o.val.yes, .int .i64 o.val.num, .string o.val.text, .slice oa o.val.list.length oc, .slice ob o.val.fields.length od] #[.int .i64 v.kind, .bool v.yes, .int .i64 v.num, .string v.text, .slice la v.list.length lc, .slice fa v.fields.length fc] pb poff n wx ∧ x.At wx S (.slice xa x.list.length xc) (.slice xb x.fields.length xd) ∧ Below w1.heap.size w1 wx))
    case first =>
      cases t with
      | true =>
        obtain ⟨hil, hval⟩ := HT.out rfl
        obtain ⟨b0, off0, c0', lx, fx, e0, hb0, hin, hat⟩ : ∃ b off c lx fx, Value.slice fa v.fields.length fc = .slice (some ⟨b, off, none⟩) v.fields.length c ∧ b < w1.heap.size ∧ InAt w1 b (off + i * 7) (.string (v.fields[i]).1 :: (v.fields[i]).2.cells lx fx) ∧ (v.fields[i]).2.At w1 S lx fx := by
          obtain ⟨a', c', f1, f2, f3, hl⟩ := (V.at_iff.1 HFW.out).2
          rcases hl with hl | ⟨b, off, ea, hS, hb, hc⟩
          · rw [hl] at hil; simp at hil
          · obtain ⟨lv', fv', h1, h2⟩ := hc.get hil
            exact ⟨b, off, c', lv', fv', by rw [f1, ea], hb, h1, h2⟩
        rw [← hval] at hin hat
        obtain ⟨⟨xa, xc, rfl⟩, ⟨xb, xd, rfl⟩, _, _⟩ := hat.is.len
        obtain ⟨p0, p1, p2, p3, p4, p5, p6⟩ := hin.seven
        injection e0 with e1 _ e3
        rw [e1] at v5
        have hii : (i : Int) < (v.fields.length : Int) := by omega
        have hA : Below w1.heap.size w1 (w1.alloc (.cells #[.int .i64 x.kind, .bool x.yes, .int .i64 x.num, .string x.text, .slice xa x.list.length xc, .slice xb x.fields.length xd] 26)) := (Below.refl _ w1).alloc (Nat.le_refl _) _
        have HM : Hid (Box (w1.alloc (.cells #[.int .i64 x.kind, .bool x.yes, .int .i64 x.num, .string x.text, .slice xa x.list.length xc, .slice xb x.fields.length xd] 26)) w1.heap.size 26 #[.int .i64 x.kind, .bool x.yes, .int .i64 x.num, .string x.text, .slice xa x.list.length xc, .slice xb x.fields.length xd] ∧ AS w #[.int .i64 o.kind, .slice pa pl pc, .int .i64 o.val.kind, .bool o.val.yes, .int .i64 o.val.num, .string o.val.text, .slice oa o.val.list.length oc, .slice ob o.val.fields.length od] #[.int .i64 v.kind, .bool v.yes, .int .i64 v.num, .string v.text, .slice la v.list.length lc, .slice fa v.fields.length fc] pb poff n (w1.alloc (.cells #[.int .i64 x.kind, .bool x.yes, .int .i64 x.num, .string x.text, .slice xa x.list.length xc, .slice xb x.fields.length xd] 26)) ∧ x.At (w1.alloc (.cells #[.int .i64 x.kind, .bool x.yes, .int .i64 x.num, .string x.text, .slice xa x.list.length xc, .slice xb x.fields.length xd] 26)) S (.slice xa x.list.length xc) (.slice xb x.fields.length xd) ∧ Below w1.heap.size w1 (w1.alloc (.cells #[.int .i64 x.kind, .bool x.yes, .int .i64 x.num, .string x.text, .slice xa x.list.length xc, .slice xb x.fields.length xd] 26))) := Lib.hid ⟨Box.new w1 _ _, HAS.out.below hA, hat.below hA, hA⟩
        clear p0 hval hin hat hA e1 e3 HFD HFW HV HT HN HAS
        go_wp2
        go_meet
        exact ⟨xa, xc, xb, xd, by first | (go_num; done) | (simp; done) | (simp; omega), HM⟩
      | false =>
        have hval := HN.out rfl
        have hA : Below w1.heap.size w1 (w1.alloc (.cells #[.int .i64 0, .bool false, .int .i64 0, .string ⟨#[]⟩, .slice none 0 0, .slice none 0 0] 26)) := (Below.refl _ w1).alloc (Nat.le_refl _) _
        have HM : Hid (∃ xa xc xb xd, Box (w1.alloc (.cells #[.int .i64 0, .bool false, .int .i64 0, .string ⟨#[]⟩, .slice none 0 0, .slice none 0 0] 26)) w1.heap.size 26 #[.int .i64 x.kind, .bool x.yes, .int .i64 x.num, .string x.text, .slice xa x.list.length xc, .slice xb x.fields.length xd] ∧ AS w #[.int .i64 o.kind, .slice pa pl pc, .int .i64 o.val.kind, .bool o.val.yes, .int .i64 o.val.num, .string o.val.text, .slice oa o.val.list.length oc, .slice ob o.val.fields.length od] #[.int .i64 v.kind, .bool v.yes, .int .i64 v.num, .string v.text, .slice la v.list.length lc, .slice fa v.fields.length fc] pb poff n (w1.alloc (.cells #[.int .i64 0, .bool false, .int .i64 0, .string ⟨#[]⟩, .slice none 0 0, .slice none 0 0] 26)) ∧ x.At (w1.alloc (.cells #[.int .i64 0, .bool false, .int .i64 0, .string ⟨#[]⟩, .slice none 0 0, .slice none 0 0] 26)) S (.slice xa x.list.length xc) (.slice xb x.fields.length xd) ∧ Below w1.heap.size w1 (w1.alloc (.cells #[.int .i64 0, .bool false, .int .i64 0, .string ⟨#[]⟩, .slice none 0 0, .slice none 0 0] 26))) := Lib.hid ⟨none, 0, none, 0, by rw [hval]; exact Box.new w1 _ _, HAS.out.below hA, by rw [hval]; exact none_at _ _ V.null rfl rfl, hA⟩
        clear hval hA HFD HFW HV HT HN HAS
        go_wp2
        go_meet
        obtain ⟨xa, xc, xb, xd, h⟩ := HM.out
        exact ⟨xa, xc, xb, xd, by simp, Lib.hid h⟩
    case rest =>
      clear v0 v1 v2 v3 v4 v5 hl1
      obtain ⟨xa, xc, xb, xd, rfl, HC⟩ := hcut
      obtain ⟨hxb, has, hxat, hbc⟩ := HC.out
      obtain ⟨jn, hj⟩ : ∃ jn, jn = i + if t then 1 else 0 := ⟨_, rfl⟩
      rw [← hj]
      have HJ := Lib.hid hj
      have hcall := HFD.out wc.drew xa xc xb xd off' has.2.2.2.2.drew (V.At.drew hxat) (fun h => HOFF.out (by omega))
      have HCALL := Lib.hid hcall
      have HW2 : Hid (∀ w2, Below wc.drew.heap.size wc.drew w2 → Box w2 w1.heap.size 26 #[.int .i64 x.kind, .bool x.yes, .int .i64 x.num, .string x.text, .slice xa x.list.length xc, .slice xb x.fields.length xd] ∧ AS w #[.int .i64 o.kind, .slice pa pl pc, .int .i64 o.val.kind, .bool o.val.yes, .int .i64 o.val.num, .string o.val.text, .slice oa o.val.list.length oc, .slice ob o.val.fields.length od] #[.int .i64 v.kind, .bool v.yes, .int .i64 v.num, .string v.text, .slice la v.list.length lc, .slice fa v.fields.length fc] pb poff n w2 ∧ w1.heap.size < wc.heap.size) := Lib.hid fun w2 hb2 =>
        ⟨(hb2.block _ hxb.lt).trans hxb, has.below ((Below.refl _ wc).drew.trans hb2), hxb.lt⟩
      obtain ⟨o0, o1, o2, o3, o4, o5, o6, o7⟩ := has.1.eight
      have hl0 := has.1.lt
      obtain ⟨⟨x0, x1, x2, x3, x4, x5⟩, _⟩ := hxb.six
      have hxl := hxb.lt
      clear hcall hj hxb has hxat hbc HFD HT HN HC HFW HAS HOFF
      go_upto_region 9 with (fail)
      go_cut [12, 13] (fun s c wx => ∃ st ec, s = .bool st ∧ c = .int .i64 ec ∧ Hid (R2 r (fun q => S q ∨ w.heap.size + 3 ≤ q) w1.heap.size st ec wx ∧ AS w #[.int .i64 o.kind, .slice pa pl pc, .int .i64 o.val.kind, .bool o.val.yes, .int .i64 o.val.num, .string o.val.text, .slice oa o.val.list.length oc, .slice ob o.val.fields.length od] #[.int .i64 v.kind, .bool v.yes, .int .i64 v.num, .string v.text, .slice la v.list.length lc, .slice fa v.fields.length fc] pb poff n wx))
      case first =>
        cases r with
        | error c =>
          go_region_with ((go_at_call 64; refine HCALL.out.mono ?_; rintro e w2 ⟨hb2, hc0, bb, rfl⟩; obtain ⟨hxb2, has2, hlt2⟩ := HW2.out w2 hb2; have HR := Lib.hid (show R2 (.error c) (fun q => S q ∨ w.heap.size + 3 ≤ q) w1.heap.size bb c (sets w2 w1.heap.size 0 [.int .i64 0, .bool false, .int .i64 0, .string ⟨#[]⟩, .slice none 0 0, .slice none 0 0]) ∧ AS w #[.int .i64 o.kind, .slice pa pl pc, .int .i64 o.val.kind, .bool o.val.yes, .int .i64 o.val.num, .string o.val.text, .slice oa o.val.list.length oc, .slice ob o.val.fields.length od] #[.int .i64 v.kind, .bool v.yes, .int .i64 v.num, .string v.text, .slice la v.list.length lc, .slice fa v.fields.length fc] pb poff n (sets w2 w1.heap.size 0 [.int .i64 0, .bool false, .int .i64 0, .string ⟨#[]⟩, .slice none 0 0, .slice none 0 0]) from ⟨⟨rfl, hc0⟩, has2.sets HI.out.2.2.2.2 _⟩); obtain ⟨⟨z0, z1, z2, z3, z4, z5⟩, s0, s1, s2, s3, s4, s5⟩ := hxb2.six; have hxl2 := hxb2.lt; clear hb2 hxb2 has2))
          all_goals
            go_wp2_with fail
            go_meet
            exact ⟨_, _, rfl, rfl, HR⟩
        | ok y =>
          cases y with
          | none =>
            go_region_with ((go_at_call 64; refine HCALL.out.mono ?_; rintro e w2 ⟨hb2, rfl⟩; obtain ⟨hxb2, has2, hlt2⟩ := HW2.out w2 hb2; have HR := Lib.hid (show R2 (.ok none) (fun q => S q ∨ w.heap.size + 3 ≤ q) w1.heap.size false 0 (sets w2 w1.heap.size 0 [.int .i64 0, .bool false, .int .i64 0, .string ⟨#[]⟩, .slice none 0 0, .slice none 0 0]) ∧ AS w #[.int .i64 o.kind, .slice pa pl pc, .int .i64 o.val.kind, .bool o.val.yes, .int .i64 o.val.num, .string o.val.text, .slice oa o.val.list.length oc, .slice ob o.val.fields.length od] #[.int .i64 v.kind, .bool v.yes, .int .i64 v.num, .string v.text, .slice la v.list.length lc, .slice fa v.fields.length fc] pb poff n (sets w2 w1.heap.size 0 [.int .i64 0, .bool false, .int .i64 0, .string ⟨#[]⟩, .slice none 0 0, .slice none 0 0]) from ⟨⟨rfl, rfl⟩, has2.sets HI.out.2.2.2.2 _⟩); obtain ⟨⟨z0, z1, z2, z3, z4, z5⟩, s0, s1, s2, s3, s4, s5⟩ := hxb2.six; have hxl2 := hxb2.lt; clear hb2 hxb2 has2))
            all_goals
              go_wp2_with fail
              go_meet
              exact ⟨_, _, rfl, rfl, HR⟩
          | some y =>
            go_region_with ((go_at_call 64; refine HCALL.out.mono ?_; rintro e w2 ⟨hb2, ya, yc, yb, yd, rfl, hyat⟩; obtain ⟨hxb2, has2, hlt2⟩ := HW2.out w2 hb2; have HR := Lib.hid (show R2 (.ok (some y)) (fun q => S q ∨ w.heap.size + 3 ≤ q) w1.heap.size true 0 (sets w2 w1.heap.size 0 [.int .i64 y.kind, .bool y.yes, .int .i64 y.num, .string y.text, .slice ya y.list.length yc, .slice yb y.fields.length yd]) ∧ AS w #[.int .i64 o.kind, .slice pa pl pc, .int .i64 o.val.kind, .bool o.val.yes, .int .i64 o.val.num, .string o.val.text, .slice oa o.val.list.length oc, .slice ob o.val.fields.length od] #[.int .i64 v.kind, .bool v.yes, .int .i64 v.num, .string v.text, .slice la v.list.length lc, .slice fa v.fields.length fc] pb poff n (sets w2 w1.heap.size 0 [.int .i64 y.kind, .bool y.yes, .int .i64 y.num, .string y.text, .slice ya y.list.length yc, .slice yb y.fields.length yd]) from ⟨⟨rfl, rfl, ya, yc, yb, yd, box_sets6 hxb2 _ _ _ _ _ _, at_ends hyat (fun q hq => by have h3 := HI.out.2.2.2.2; rcases hq with hq | hq; have h5 := HSS.out q hq; exact ⟨by omega, .inl hq⟩; exact ⟨by have h4 : wc.drew.heap.size = wc.heap.size := rfl; omega, .inr (by have h4 : wc.drew.heap.size = wc.heap.size := rfl; omega)⟩) _⟩, has2.sets HI.out.2.2.2.2 _⟩); obtain ⟨⟨z0, z1, z2, z3, z4, z5⟩, s0, s1, s2, s3, s4, s5⟩ := hxb2.six; have hxl2 := hxb2.lt; clear hb2 hxb2 has2 hyat))
            all_goals
              go_wp2_with fail
              go_meet
              exact ⟨_, _, rfl, rfl, HR⟩
      case rest =>
        clear o0 o1 o2 o3 o4 o5 o6 o7 hl0 x0 x1 x2 x3 x4 x5 hxl HCALL HW2
        obtain ⟨st, ec, rfl, rfl, HC⟩ := hcut
        obtain ⟨hr2, has⟩ := HC.out
        have HAS := Lib.hid has
        obtain ⟨⟨v0, v1, v2, v3, v4, v5⟩, fv0, fv1, fv2, fv3, fv4, fv5⟩ := has.2.1.six
        have hl1 := has.2.1.lt
        obtain ⟨⟨z0, z1, z2, z3, z4, z5⟩, s0, s1, s2, s3, s4, s5⟩ := has.2.2.1.six
        have hl2 := has.2.2.1.lt
        have hge : w.heap.size ≤ w.heap.size + 1 + 1 := by omega
        cases r with
        | error c =>
          obtain ⟨rfl, hc0⟩ := hr2
          have g2 : (ec != 0) = true := by simp [hc0]
          obtain ⟨k0, k1, k2, k3, k4, k5⟩ := box_ends (c0 := .int .i64 0) (c1 := .bool false) (c2 := .int .i64 0) (c3 := .string ⟨#[]⟩) (c4 := .slice none 0 0) (c5 := .slice none 0 0) has.2.2.1
          simp only [sets, Nat.zero_add, Nat.reduceAdd] at k0 k1 k2 k3 k4 k5
          have HO : Hid (ResP ((Except.error ec : Except Int (Option V)).map fun y => v.setF (putV v.fields n y)) S w (.returned (.tuple #[.agg #[.int .i64 0, .bool false, .int .i64 0, .string ⟨#[]⟩, .slice none 0 0, .slice none 0 0], .int .i64 ec])) (sets wc (w.heap.size + 1 + 1) 0 [.int .i64 0, .bool false, .int .i64 0, .string ⟨#[]⟩, .slice none 0 0, .slice none 0 0])) := Lib.hid ⟨below_ends has.2.2.2.2 hge _, hc0, rfl⟩
          clear hc0 has hge HC HAS
          go_wp2
          refine bodyPost_ret (v := .tuple #[.agg #[.int .i64 0, .bool false, .int .i64 0, .string ⟨#[]⟩, .slice none 0 0, .slice none 0 0], .int .i64 ec]) (by simp [results, Try.results43, go_sem, k0, k1, k2, k3, k4, k5]) rfl HO.out
        | ok y0 =>
          have hec : ec = 0 := by
            cases y0 with
            | none => exact hr2.2
            | some y => exact hr2.2.1
          subst hec
          -- the fields ahead of the name
          have hfat := (V.at_iff.1 (V.At.below HV.out.1 has.2.2.2.2)).2
          obtain ⟨hfl, hfn, hsrc⟩ := src_of hfat
          have hilen : i ≤ v.fields.length := HI.out.2.2.2.1
          have hjlen : jn ≤ v.fields.length := by rw [HJ.out]; exact HJL.out
          have hhi := fld_hi fa v.fields.length fc i (by omega) (fun e => by have := hfn e; rw [this] at hilen; simp at hilen; exact hilen)
          obtain ⟨fa2, hlo2, hfa2⟩ := fld_lo fa v.fields.length fc jn hjlen hfl (fun e => by rw [hfn e]; rfl)
          have htl : (v.fields.take i).length = i := by rw [List.length_take]; omega
          have hcl := cloneF_any (w := wc) (P := fun q => S q ∨ (w.heap.size + 3 ≤ q ∧ q < wc.heap.size)) (fun q hq => hq.elim (fun h => Nat.lt_of_lt_of_le (HSS.out q h) has.2.2.2.2.size) (fun h => h.2)) (rows := v.fields.take i) (sa := fa) (sc := fc) (by rw [htl]; omega) (by
            rcases hsrc with h | ⟨b, off, e, hlt, hs⟩
            · exact .inl (by rw [h, List.take_nil])
            · exact .inr ⟨b, off, e, hlt, (hs.take i).wider fun q hq => .inl hq⟩)
          rw [htl] at hcl
          have HCL := Lib.hid hcl
          have HSRC := Lib.hid (And.intro hsrc (And.intro hfa2 (And.intro hilen hjlen)))
          have HR2 := Lib.hid hr2
          have hw3 : w.heap.size + 3 ≤ wc.heap.size := has.size
          have HW3 := Lib.hid hw3
          have HPB : Hid (∀ q, (fun q => S q ∨ (w.heap.size + 3 ≤ q ∧ q < wc.heap.size)) q → q < wc.heap.size) := Lib.hid fun q hq => hq.elim (fun h => Nat.lt_of_lt_of_le (HSS.out q h) has.2.2.2.2.size) (fun h => h.2)
          have HTL := Lib.hid htl
          clear hcl hsrc hfa2 hilen hjlen hfl hfn hfat htl has hge HC hr2 hw3
          go_wp2_with fail
          refine HCL.out.mono ?_
          rintro e w4 ⟨fv, rfl, hgr, hb4⟩
          obtain ⟨ga, gc, rfl, _, _⟩ := hgr.form
          rw [HTL.out] at hgr ⊢
          have has4 := HAS.out.below hb4
          have hsr4 : v.fields = [] ∨ ∃ b off, fa = some ⟨b, off, none⟩ ∧ b < wc.heap.size ∧ SrcAt w4 (fun q => S q ∨ (w.heap.size + 3 ≤ q ∧ q < wc.heap.size)) b off v.fields := HSRC.out.1.imp id fun ⟨b, off, e, hlt, hs⟩ => ⟨b, off, e, hlt, (hs.wider fun q hq => .inl hq).belowB hlt HPB.out hb4⟩
          have hz4 := hb4.size
          clear v0 v1 v2 v3 v4 v5 fv0 fv1 fv2 fv3 fv4 fv5 hl1 z0 z1 z2 z3 z4 z5 s0 s1 s2 s3 s4 s5 hl2
          cases y0 with
          | none =>
            obtain ⟨rfl, _⟩ := HR2.out
            have hrows : v.fields.take i ++ v.fields.drop jn = putV v.fields n none := by rw [HJ.out, HI.out.1, HI.out.2.1]; unfold putV; simp
            obtain ⟨rows5, hr5⟩ : ∃ rows5, rows5 = v.fields.take i := ⟨_, rfl⟩
            have hrl : rows5.length = i := by rw [hr5]; exact HTL.out
            rw [← hr5] at hgr hrows
            have hgr5 := hgr
            have has5 := has4
            have hsr5 := hsr4
            have hz5 := hz4
            have hnl9 : rows5.length ≤ 90001 := by rw [hrl]; omega
            have hL9 : v.fields.length ≤ 90000 := by have := (okv_iff.1 HV.out.2).1.2.1; omega
            clear hr5 hb4 hgr has4 hsr4 hz4
            obtain ⟨v6, w6, hr6, hgr6, hb6⟩ := app_flds (rows2 := v.fields.drop jn) (sa := fa2) (sc := fc - jn) HPB.out hgr5 (by have h1 := HI.out.2.2.2.1; have h2 := hnl9; omega) (by rw [List.length_drop]; have h1 := hL9; omega) hz5 (by
              rcases hsr5 with h | ⟨b, off, e, hlt, hs⟩
              · exact .inl (by rw [h, List.drop_nil])
              · by_cases hj : jn < v.fields.length
                · exact .inr ⟨b, off + jn * 7, HSRC.out.2.1 b off e hj, hs.drop jn⟩
                · exact .inl (List.drop_eq_nil_iff.2 (by omega))) 22
            rw [List.length_drop] at hr6
            rw [hrows] at hgr6
            obtain ⟨ma, mc, rfl, _, _⟩ := hgr6.form
            obtain ⟨ml, hml⟩ : ∃ ml, ml = (putV v.fields n none).length := ⟨_, rfl⟩
            rw [← hml] at hr6 hgr6
            have has6 := has5.belowB HW3.out hb6
            obtain ⟨⟨c0, c1, c2, c3, c4, c5⟩, _⟩ := has5.2.1.six
            have hl5 := has5.2.1.lt
            obtain ⟨⟨d0, d1, d2, d3, d4, d5⟩, f0, f1, f2, f3, f4, f5⟩ := has6.2.1.six
            have hl6 := has6.2.1.lt
            obtain ⟨⟨z0, z1, z2, z3, z4, z5⟩, s0, s1, s2, s3, s4, s5⟩ := has6.2.2.1.six
            have hl7 := has6.2.2.1.lt
            have hb7 : Box (sets w6 (w.heap.size + 1) 5 [.slice ma ml mc]) (w.heap.size + 1 + 1) 26 #[.int .i64 0, .bool false, .int .i64 0, .string ⟨#[]⟩, .slice none 0 0, .slice none 0 0] := (sets_far _ _ _ _ (by omega)).trans has6.2.2.1
            obtain ⟨k0, k1, k2, k3, k4, k5⟩ := box_ends (c0 := .int .i64 v.kind) (c1 := .bool v.yes) (c2 := .int .i64 v.num) (c3 := .string v.text) (c4 := .slice la v.list.length lc) (c5 := .slice ma ml mc) hb7
            simp only [sets, Nat.zero_add, Nat.reduceAdd] at k0 k1 k2 k3 k4 k5
            have hfar : ∀ q, q ≠ w.heap.size + 1 → q ≠ w.heap.size + 1 + 1 → (sets (sets w6 (w.heap.size + 1) 5 [.slice ma ml mc]) (w.heap.size + 1 + 1) 0 [.int .i64 v.kind, .bool v.yes, .int .i64 v.num, .string v.text, .slice la v.list.length lc, .slice ma ml mc]).heap[q]? = w6.heap[q]? := fun q h1 h2 => (sets_far _ _ _ _ h2).trans (sets_far _ _ _ _ h1)
            have hsz : (sets (sets w6 (w.heap.size + 1) 5 [.slice ma ml mc]) (w.heap.size + 1 + 1) 0 [.int .i64 v.kind, .bool v.yes, .int .i64 v.num, .string v.text, .slice la v.list.length lc, .slice ma ml mc]).heap.size = w6.heap.size := by rw [sets_size, sets_size]
            have hbF : Below w.heap.size w (sets (sets w6 (w.heap.size + 1) 5 [.slice ma ml mc]) (w.heap.size + 1 + 1) 0 [.int .i64 v.kind, .bool v.yes, .int .i64 v.num, .string v.text, .slice la v.list.length lc, .slice ma ml mc]) := Below.sets _ 0 (Below.sets _ 5 has6.2.2.2.2 (by omega)) (by omega)
            have hlat := (V.at_iff.1 HV.out.1).1
            have HO : Hid (ResP ((Except.ok none : Except Int (Option V)).map fun y => v.setF (putV v.fields n y)) S w (.returned (.tuple #[.agg #[.int .i64 v.kind, .bool v.yes, .int .i64 v.num, .string v.text, .slice la v.list.length lc, .slice ma ml mc], .int .i64 0])) (sets (sets w6 (w.heap.size + 1) 5 [.slice ma ml mc]) (w.heap.size + 1 + 1) 0 [.int .i64 v.kind, .bool v.yes, .int .i64 v.num, .string v.text, .slice la v.list.length lc, .slice ma ml mc])) := Lib.hid ⟨hbF, la, lc, ma, mc, by rw [hml]; rfl, V.at_iff.2 ⟨LAt.move (fun q hq _ => ⟨.inl hq, hbF.block q (HSS.out q hq)⟩) hbF.size hlat, by
              have h9 := hgr6.atP (S := fun q => S q ∨ w.heap.size + 3 ≤ q) (fun q hq => hq.imp id fun h => h.1) (fun q hq => .inr (Nat.le_trans HW3.out hq))
              rw [hml] at h9
              exact FAt.move (fun q hq _ => hq.elim (fun h => ⟨.inl h, hfar q (by have := HSS.out q h; omega) (by have := HSS.out q h; omega)⟩) (fun h => ⟨.inr (by omega), hfar q (by omega) (by omega)⟩)) (by rw [hsz]; exact Nat.le_refl _) h9⟩⟩
            clear hb7 hfar hsz hbF hlat hgr6 hgr5 hb6 has6 has5 hsr5 hz5 hrows hrl hml hnl9 hL9 HV HSRC HR2 HW3 HPB HAS HCL HJL HX3 HJ HI
            go_wp2_with (first
              | (at_builtin; refine Lib.wpList_append_run _ rfl _ _ _ _ rfl _ _ rfl rfl _ _ hr6 ?_)
              | fail)
            refine bodyPost_ret (v := .tuple #[.agg #[.int .i64 v.kind, .bool v.yes, .int .i64 v.num, .string v.text, .slice la v.list.length lc, .slice ma ml mc], .int .i64 0]) (by simp [results, Try.results43, go_sem, k0, k1, k2, k3, k4, k5]) rfl HO.out
          | some y =>
            obtain ⟨rfl, _, ya, yc, yb, yd, hyb, hyat⟩ := HR2.out
            have hyb4 : Box w4 w1.heap.size 26 #[.int .i64 y.kind, .bool y.yes, .int .i64 y.num, .string y.text, .slice ya y.list.length yc, .slice yb y.fields.length yd] := (hb4.block _ hyb.lt).trans hyb
            have hyat4 : y.At w4 (fun q => S q ∨ (w.heap.size + 3 ≤ q ∧ q < wc.heap.size)) (.slice ya y.list.length yc) (.slice yb y.fields.length yd) := V.At.move (fun q hq hlt => ⟨hq.imp id fun h => ⟨h, hlt⟩, hb4.block q hlt⟩) hb4.size _ (Nat.le_refl _) hyat
            have hA4 : Below w4.heap.size w4 (w4.drew.alloc (.cells #[.string n, .int .i64 y.kind, .bool y.yes, .int .i64 y.num, .string y.text, .slice ya y.list.length yc, .slice yb y.fields.length yd] 30)) := ((Below.refl _ w4).drew).alloc (Nat.le_refl _) _
            have hsy : SrcAt (w4.drew.alloc (.cells #[.string n, .int .i64 y.kind, .bool y.yes, .int .i64 y.num, .string y.text, .slice ya y.list.length yc, .slice yb y.fields.length yd] 30)) (fun q => S q ∨ (w.heap.size + 3 ≤ q ∧ q < wc.heap.size)) w4.heap.size 0 [(n, y)] := fun j hj => by
              obtain rfl : j = 0 := by simp at hj; omega
              refine ⟨.slice ya y.list.length yc, .slice yb y.fields.length yd, fun q u hq => ?_, hyat4.below hA4⟩
              have h9 := Box.cell (i := q) (Box.new w4.drew 30 #[.string n, .int .i64 y.kind, .bool y.yes, .int .i64 y.num, .string y.text, .slice ya y.list.length yc, .slice yb y.fields.length yd])
              rw [Nat.zero_mul, Nat.zero_add]
              exact h9.trans (show (fcells (n, y) (.slice ya y.list.length yc) (.slice yb y.fields.length yd)).toArray[q]? = some u by rw [List.getElem?_toArray]; exact hq)
            obtain ⟨v5, w5, hr5, hgr5, hb5⟩ := app_flds (rows2 := [(n, y)]) (sa := some ⟨w4.heap.size, 0, none⟩) (sc := 1) HPB.out (hgr.below hA4) (by rw [HTL.out]; have := HI.out.2.2.2.1; omega) (by simp) (Nat.le_trans hz4 hA4.size) (.inr ⟨_, _, rfl, hsy⟩) 22
            have hrows : (v.fields.take i ++ [(n, y)]) ++ v.fields.drop jn = putV v.fields n (some y) := by rw [HJ.out, HI.out.1, HI.out.2.1]; unfold putV; simp
            obtain ⟨rows5, hq5⟩ : ∃ rows5, rows5 = v.fields.take i ++ [(n, y)] := ⟨_, rfl⟩
            rw [← hq5] at hgr5 hrows
            have hq6 : rows5.length = i + 1 := by rw [hq5, List.length_append, HTL.out]; rfl
            obtain ⟨na, nc, rfl, _, _⟩ := hgr5.form
            obtain ⟨nl, hrl⟩ : ∃ nl, rows5.length = nl := ⟨_, rfl⟩
            rw [hrl] at hr5 hgr5
            simp only [List.length_singleton] at hr5
            change (Builtin.append_ #[22, 22] 22 #[.slice ga i gc, .slice (some ⟨w4.heap.size, 0, none⟩) 1 1]).run Try.prog (w4.alloc (.cells #[.string n, .int .i64 y.kind, .bool y.yes, .int .i64 y.num, .string y.text, .slice ya y.list.length yc, .slice yb y.fields.length yd] 30)).drew = .ok (.slice na nl nc) w5 at hr5
            have has5 := (has4.below hA4).belowB HW3.out hb5
            have hsr5 : v.fields = [] ∨ ∃ b off, fa = some ⟨b, off, none⟩ ∧ b < wc.heap.size ∧ SrcAt w5 (fun q => S q ∨ (w.heap.size + 3 ≤ q ∧ q < wc.heap.size)) b off v.fields := hsr4.imp id fun ⟨b, off, e, hlt, hs⟩ => ⟨b, off, e, hlt, ((hs.below (Nat.lt_of_lt_of_le hlt hz4) (fun _ h => h) hA4).belowB hlt HPB.out hb5)⟩
            have hz5 : wc.heap.size ≤ w5.heap.size := Nat.le_trans (Nat.le_trans hz4 hA4.size) hb5.size
            have hnl9 : rows5.length ≤ 90001 := by rw [hq6]; omega
            have hL9 : v.fields.length ≤ 90000 := by have := (okv_iff.1 HV.out.2).1.2.1; omega
            have hn4 := has4.2.2.2.1.1
            have hpl4 : pb < w4.heap.size := Nat.lt_of_lt_of_le has4.2.2.2.1.2 has4.2.2.2.2.size
            obtain ⟨⟨x0, x1, x2, x3, x4, x5⟩, _⟩ := hyb4.six
            have hxl4 := hyb4.lt
            clear hq5 hq6 hsy hA4 hyat4 hyb4 hyat hyb hb4 hgr has4 hsr4 hz4 hb5
            obtain ⟨v6, w6, hr6, hgr6, hb6⟩ := app_flds (rows2 := v.fields.drop jn) (sa := fa2) (sc := fc - jn) HPB.out hgr5 (by have h1 := HI.out.2.2.2.1; have h2 := hnl9; omega) (by rw [List.length_drop]; have h1 := hL9; omega) hz5 (by
              rcases hsr5 with h | ⟨b, off, e, hlt, hs⟩
              · exact .inl (by rw [h, List.drop_nil])
              · by_cases hj : jn < v.fields.length
                · exact .inr ⟨b, off + jn * 7, HSRC.out.2.1 b off e hj, hs.drop jn⟩
                · exact .inl (List.drop_eq_nil_iff.2 (by omega))) 22
            rw [List.length_drop] at hr6
            rw [hrows] at hgr6
            obtain ⟨ma, mc, rfl, _, _⟩ := hgr6.form
            obtain ⟨ml, hml⟩ : ∃ ml, ml = (putV v.fields n (some y)).length := ⟨_, rfl⟩
            rw [← hml] at hr6 hgr6
            have has6 := has5.belowB HW3.out hb6
            obtain ⟨⟨c0, c1, c2, c3, c4, c5⟩, _⟩ := has5.2.1.six
            have hl5 := has5.2.1.lt
            obtain ⟨⟨d0, d1, d2, d3, d4, d5⟩, f0, f1, f2, f3, f4, f5⟩ := has6.2.1.six
            have hl6 := has6.2.1.lt
            obtain ⟨⟨z0, z1, z2, z3, z4, z5⟩, s0, s1, s2, s3, s4, s5⟩ := has6.2.2.1.six
            have hl7 := has6.2.2.1.lt
            have hb7 : Box (sets w6 (w.heap.size + 1) 5 [.slice ma ml mc]) (w.heap.size + 1 + 1) 26 #[.int .i64 0, .bool false, .int .i64 0, .string ⟨#[]⟩, .slice none 0 0, .slice none 0 0] := (sets_far _ _ _ _ (by omega)).trans has6.2.2.1
            obtain ⟨k0, k1, k2, k3, k4, k5⟩ := box_ends (c0 := .int .i64 v.kind) (c1 := .bool v.yes) (c2 := .int .i64 v.num) (c3 := .string v.text) (c4 := .slice la v.list.length lc) (c5 := .slice ma ml mc) hb7
            simp only [sets, Nat.zero_add, Nat.reduceAdd] at k0 k1 k2 k3 k4 k5
            have hfar : ∀ q, q ≠ w.heap.size + 1 → q ≠ w.heap.size + 1 + 1 → (sets (sets w6 (w.heap.size + 1) 5 [.slice ma ml mc]) (w.heap.size + 1 + 1) 0 [.int .i64 v.kind, .bool v.yes, .int .i64 v.num, .string v.text, .slice la v.list.length lc, .slice ma ml mc]).heap[q]? = w6.heap[q]? := fun q h1 h2 => (sets_far _ _ _ _ h2).trans (sets_far _ _ _ _ h1)
            have hsz : (sets (sets w6 (w.heap.size + 1) 5 [.slice ma ml mc]) (w.heap.size + 1 + 1) 0 [.int .i64 v.kind, .bool v.yes, .int .i64 v.num, .string v.text, .slice la v.list.length lc, .slice ma ml mc]).heap.size = w6.heap.size := by rw [sets_size, sets_size]
            have hbF : Below w.heap.size w (sets (sets w6 (w.heap.size + 1) 5 [.slice ma ml mc]) (w.heap.size + 1 + 1) 0 [.int .i64 v.kind, .bool v.yes, .int .i64 v.num, .string v.text, .slice la v.list.length lc, .slice ma ml mc]) := Below.sets _ 0 (Below.sets _ 5 has6.2.2.2.2 (by omega)) (by omega)
            have hlat := (V.at_iff.1 HV.out.1).1
            have HO : Hid (ResP ((Except.ok (some y) : Except Int (Option V)).map fun y => v.setF (putV v.fields n y)) S w (.returned (.tuple #[.agg #[.int .i64 v.kind, .bool v.yes, .int .i64 v.num, .string v.text, .slice la v.list.length lc, .slice ma ml mc], .int .i64 0])) (sets (sets w6 (w.heap.size + 1) 5 [.slice ma ml mc]) (w.heap.size + 1 + 1) 0 [.int .i64 v.kind, .bool v.yes, .int .i64 v.num, .string v.text, .slice la v.list.length lc, .slice ma ml mc])) := Lib.hid ⟨hbF, la, lc, ma, mc, by rw [hml]; rfl, V.at_iff.2 ⟨LAt.move (fun q hq _ => ⟨.inl hq, hbF.block q (HSS.out q hq)⟩) hbF.size hlat, by
              have h9 := hgr6.atP (S := fun q => S q ∨ w.heap.size + 3 ≤ q) (fun q hq => hq.imp id fun h => h.1) (fun q hq => .inr (Nat.le_trans HW3.out hq))
              rw [hml] at h9
              exact FAt.move (fun q hq _ => hq.elim (fun h => ⟨.inl h, hfar q (by have := HSS.out q h; omega) (by have := HSS.out q h; omega)⟩) (fun h => ⟨.inr (by omega), hfar q (by omega) (by omega)⟩)) (by rw [hsz]; exact Nat.le_refl _) h9⟩⟩
            clear hb7 hfar hsz hbF hlat hgr6 hgr5 hb6 has6 has5 hsr5 hz5 hrows hrl hml hnl9 hL9 HV HSRC HR2 HW3 HPB HAS HCL HJL HX3 HJ HI
            go_wp2_with fail
            go_region_with fail
            all_goals
              go_wp2_with (first
                | (at_builtin; refine Lib.wpList_append_run _ rfl _ _ _ _ rfl _ _ rfl rfl _ _ hr6 ?_)
                | fail)
              refine bodyPost_ret (v := .tuple #[.agg #[.int .i64 v.kind, .bool v.yes, .int .i64 v.num, .string v.text, .slice la v.list.length lc, .slice ma ml mc], .int .i64 0]) (by simp [results, Try.results43, go_sem, k0, k1, k2, k3, k4, k5]) rfl HO.out
  · rw [if_pos hk5]
    have g1 : (v.kind != 5) = true := by simp [hk5]
    have HB := Lib.hid hb3
    clear hb3 hfield hv hok
    go_enter Try.func43, Try.ntmps43
    go_wp2
    refine bodyPost_ret (v := .tuple #[.agg #[.int .i64 0, .bool false, .int .i64 0, .string ⟨#[]⟩, .slice none 0 0, .slice none 0 0], .int .i64 5]) (by simp [results, Try.results43, go_sem]) rfl ⟨HB.out, by decide, rfl⟩

end Go.Proofs.Ytcocljgafhpdaaa
end

section
namespace Go.Proofs.Ytcocljgafhpdaaa
open Go.RowKit

/-- texts that lie one behind the other -/
def StrAt (w : World) (b off : Nat) (ss : List ByteArray) : Prop := b < w.heap.size ∧ ∀ i (h : i < ss.length), w.cell? ⟨b, off + i, none⟩ = some (.string (ss[i]))

theorem StrAt.below {w w' : World} {b off : Nat} {ss : List ByteArray} (h : StrAt w b off ss) (hb : Below w.heap.size w w') : StrAt w' b off ss :=
  ⟨Nat.lt_of_lt_of_le h.1 hb.size, fun i hi => (hb.cell (p := ⟨b, off + i, none⟩) h.1).trans (h.2 i hi)⟩

theorem StrAt.tail {w : World} {b off : Nat} {s : ByteArray} {ss : List ByteArray} (h : StrAt w b off (s :: ss)) : StrAt w b (off + 1) ss :=
  ⟨h.1, fun i hi => by
    have := h.2 (i + 1) (by simpa using hi)
    rw [show off + 1 + i = off + (i + 1) by omega]
    simpa using this⟩

def AlongOK (o : PO) (path : List ByteArray) : Prop := ∀ (v : V) (pa : Option Addr) (pl pc : Nat) (oa : Option Addr) (oc : Nat) (ob : Option Addr) (od : Nat) (la : Option Addr) (lc : Nat) (fa : Option Addr) (fc : Nat) (pb poff pk : Nat) (k : Nat) (w : World) (S : Nat → Prop), (∀ q, S q → q < w.heap.size) →
  v.At w S (.slice la v.list.length lc) (.slice fa v.fields.length fc) → o.val.At w S (.slice oa o.val.list.length oc) (.slice ob o.val.fields.length od) → StrAt w pb poff path → path.length ≤ pk → pk ≤ maxLen → v.okv k → k ≤ 90000 → Is64 o.val.num →
  Calls Try.prog 43 #[.agg #[.int .i64 o.kind, .slice pa pl pc, .int .i64 o.val.kind, .bool o.val.yes, .int .i64 o.val.num, .string o.val.text, .slice oa o.val.list.length oc, .slice ob o.val.fields.length od], .agg #[.int .i64 v.kind, .bool v.yes, .int .i64 v.num, .string v.text, .slice la v.list.length lc, .slice fa v.fields.length fc], .slice (some ⟨pb, poff, none⟩) path.length pk] w (ResP (alongV o path v) S w)

theorem along_one (o : PO) (n : ByteArray) : AlongOK o [n] := by
  intro v pa pl pc oa oc ob od la lc fa fc pb poff pk k w S hS hv ho hs hpk hpm hok hk h6
  have h := along_core o n 0 (lastV o (valF v.fields n) (isF v.fields n)) v pa pl pc oa oc ob od la lc fa fc pb poff pk k w S hS hv hs.1 (by have := hs.2 0 (by simp); simpa using this) (by simpa using hpk) hok hk
    (fun W xa xc xb xd off' hW hx _ => field_last o pa pl pc oa oc ob od (valF v.fields n) xa xc xb xd (isF v.fields n) _ _ W S (fun q hq => Nat.lt_of_lt_of_le (hS q hq) hW.size) (V.At.below ho hW) (okv_iff.1 (valF_okv (okv_iff.1 hok).2.2)).1.2.2.2 h6)
  rw [alongV]
  exact h

/-- Op.field ahead of the end of the path -/
theorem field_more {o : PO} {path : List ByteArray} (ih : AlongOK o path) (hp : 0 < path.length) (x : V) (pa : Option Addr) (pl pc : Nat) (oa : Option Addr) (oc : Nat) (ob : Option Addr) (od : Nat) (la : Option Addr) (lc : Nat) (fa : Option Addr) (fc : Nat) (t : Bool) (pb poff pk : Nat) (k : Nat) (w : World) (S : Nat → Prop) (hS : ∀ q, S q → q < w.heap.size)
    (hx : x.At w S (.slice la x.list.length lc) (.slice fa x.fields.length fc)) (ho : o.val.At w S (.slice oa o.val.list.length oc) (.slice ob o.val.fields.length od)) (hs : StrAt w pb poff path) (hpk : path.length ≤ pk) (hpm : pk ≤ maxLen) (hok : x.okv k) (hk : k ≤ 90000) (h6 : Is64 o.val.num) :
    Calls Try.prog 64 #[.agg #[.int .i64 o.kind, .slice pa pl pc, .int .i64 o.val.kind, .bool o.val.yes, .int .i64 o.val.num, .string o.val.text, .slice oa o.val.list.length oc, .slice ob o.val.fields.length od], .agg #[.int .i64 x.kind, .bool x.yes, .int .i64 x.num, .string x.text, .slice la x.list.length lc, .slice fa x.fields.length fc], .bool t, .slice (some ⟨pb, poff, none⟩) path.length pk] w (FResP ((alongV o path x).map some) S w) := by
  have hb3 : ∀ c3 c2 c1, Below w.heap.size w (((w.alloc (.cells c1 50)).alloc (.cells c2 26)).alloc (.cells c3 26)) := fun c3 c2 c1 => (((Below.refl _ w).alloc (Nat.le_refl _) _).alloc (by simp) _).alloc (by simp; omega) _
  have hcall := fun c3 c2 c1 => ih x pa pl pc oa oc ob od la lc fa fc pb poff pk k _ S (fun q hq => Nat.lt_of_lt_of_le (hS q hq) (hb3 c3 c2 c1).size) (V.At.below hx (hb3 c3 c2 c1)) (V.At.below ho (hb3 c3 c2 c1)) (hs.below (hb3 c3 c2 c1)) hpk hpm hok hk h6
  have HB := Lib.hid hb3
  have HC := Lib.hid hcall
  obtain ⟨m, hm⟩ : ∃ m, m = path.length := ⟨_, rfl⟩
  rw [← hm] at hp HC ⊢
  have hp1 : (0 : Int) < (m : Int) := by omega
  obtain ⟨r, hr⟩ : ∃ r, r = alongV o path x := ⟨_, rfl⟩
  have HSS := Lib.hid hS
  rw [← hr] at HC ⊢
  clear hb3 hcall hx ho hs hpk hpm hok hm hr ih hS
  go_enter Try.func64, Try.ntmps64
  go_wp2_with fail
  refine (HC.out _ _ _).mono ?_
  rintro e w1 ⟨hb1, h⟩
  have hZ1 : Box w1 (w.heap.size + 1 + 1) 26 #[.int .i64 0, .bool false, .int .i64 0, .string ⟨#[]⟩, .slice none 0 0, .slice none 0 0] := by
    have h9 := Box.new ((w.alloc (.cells #[.int .i64 o.kind, .slice pa pl pc, .int .i64 o.val.kind, .bool o.val.yes, .int .i64 o.val.num, .string o.val.text, .slice oa o.val.list.length oc, .slice ob o.val.fields.length od] 50)).alloc (.cells #[.int .i64 x.kind, .bool x.yes, .int .i64 x.num, .string x.text, .slice la x.list.length lc, .slice fa x.fields.length fc] 26)) 26 #[.int .i64 0, .bool false, .int .i64 0, .string ⟨#[]⟩, .slice none 0 0, .slice none 0 0]
    rw [show ((w.alloc (.cells #[.int .i64 o.kind, .slice pa pl pc, .int .i64 o.val.kind, .bool o.val.yes, .int .i64 o.val.num, .string o.val.text, .slice oa o.val.list.length oc, .slice ob o.val.fields.length od] 50)).alloc (.cells #[.int .i64 x.kind, .bool x.yes, .int .i64 x.num, .string x.text, .slice la x.list.length lc, .slice fa x.fields.length fc] 26)).heap.size = w.heap.size + 1 + 1 by simp] at h9
    exact (hb1.block _ (by simp)).trans h9
  have hb01 : Below w.heap.size w w1 := (HB.out _ _ _).trans (hb1.mono (HB.out _ _ _).size)
  have hge : w.heap.size ≤ w.heap.size + 1 + 1 := by omega
  have hsz : (((w.alloc (.cells #[.int .i64 o.kind, .slice pa pl pc, .int .i64 o.val.kind, .bool o.val.yes, .int .i64 o.val.num, .string o.val.text, .slice oa o.val.list.length oc, .slice ob o.val.fields.length od] 50)).alloc (.cells #[.int .i64 x.kind, .bool x.yes, .int .i64 x.num, .string x.text, .slice la x.list.length lc, .slice fa x.fields.length fc] 26)).alloc (.cells #[.int .i64 0, .bool false, .int .i64 0, .string ⟨#[]⟩, .slice none 0 0, .slice none 0 0] 26)).heap.size = w.heap.size + 1 + 1 + 1 := by simp
  rw [hsz] at h
  obtain ⟨⟨z0, z1, z2, z3, z4, z5⟩, s0, s1, s2, s3, s4, s5⟩ := hZ1.six
  have hzl := hZ1.lt
  clear hb1 hsz HC
  cases r with
  | error c =>
    obtain ⟨hc, rfl⟩ := h
    obtain ⟨k0, k1, k2, k3, k4, k5⟩ := box_ends_alloc (c0 := .int .i64 0) (c1 := .bool false) (c2 := .int .i64 0) (c3 := .string ⟨#[]⟩) (c4 := .slice none 0 0) (c5 := .slice none 0 0) hZ1 (.cells #[.int .i64 0, .bool false, .int .i64 0, .string ⟨#[]⟩, .slice none 0 0, .slice none 0 0] 26)
    simp only [sets, Nat.zero_add, Nat.reduceAdd] at k0 k1 k2 k3 k4 k5
    have HO2 : Hid (FResP ((Except.error c : Except Int V).map some) S w (.returned (.tuple #[.agg #[.int .i64 0, .bool false, .int .i64 0, .string ⟨#[]⟩, .slice none 0 0, .slice none 0 0], .bool true, .int .i64 c])) ((sets w1 (w.heap.size + 1 + 1) 0 [.int .i64 0, .bool false, .int .i64 0, .string ⟨#[]⟩, .slice none 0 0, .slice none 0 0]).alloc (.cells #[.int .i64 0, .bool false, .int .i64 0, .string ⟨#[]⟩, .slice none 0 0, .slice none 0 0] 26))) := Lib.hid ⟨below_ends_alloc hb01 hge _ _, hc, _, rfl⟩
    clear hZ1 hb01 hge hc
    go_wp2
    refine bodyPost_ret (v := .tuple #[.agg #[.int .i64 0, .bool false, .int .i64 0, .string ⟨#[]⟩, .slice none 0 0, .slice none 0 0], .bool true, .int .i64 c]) (by simp [results, Try.results64, go_sem, k0, k1, k2, k3, k4, k5]) rfl HO2.out
  | ok v =>
    obtain ⟨a, c, a', c', rfl, hat⟩ := h
    obtain ⟨k0, k1, k2, k3, k4, k5⟩ := box_ends_alloc (c0 := .int .i64 v.kind) (c1 := .bool v.yes) (c2 := .int .i64 v.num) (c3 := .string v.text) (c4 := .slice a v.list.length c) (c5 := .slice a' v.fields.length c') hZ1 (.cells #[.int .i64 v.kind, .bool v.yes, .int .i64 v.num, .string v.text, .slice a v.list.length c, .slice a' v.fields.length c'] 26)
    simp only [sets, Nat.zero_add, Nat.reduceAdd] at k0 k1 k2 k3 k4 k5
    have HO2 : Hid (FResP ((Except.ok v : Except Int V).map some) S w (.returned (.tuple #[.agg #[.int .i64 v.kind, .bool v.yes, .int .i64 v.num, .string v.text, .slice a v.list.length c, .slice a' v.fields.length c'], .bool true, .int .i64 0])) ((sets w1 (w.heap.size + 1 + 1) 0 [.int .i64 v.kind, .bool v.yes, .int .i64 v.num, .string v.text, .slice a v.list.length c, .slice a' v.fields.length c']).alloc (.cells #[.int .i64 v.kind, .bool v.yes, .int .i64 v.num, .string v.text, .slice a v.list.length c, .slice a' v.fields.length c'] 26))) := Lib.hid ⟨below_ends_alloc hb01 hge _ _, a, c, a', c', rfl, at_ends_alloc hat (fun q hq => hq.elim (fun h => ⟨by have := HSS.out q h; omega, .inl h⟩) (fun h => ⟨by omega, .inr (by omega)⟩)) _ _⟩
    clear hZ1 hb01 hge hat
    go_wp2
    refine bodyPost_ret (v := .tuple #[.agg #[.int .i64 v.kind, .bool v.yes, .int .i64 v.num, .string v.text, .slice a v.list.length c, .slice a' v.fields.length c'], .bool true, .int .i64 0]) (by simp [results, Try.results64, go_sem, k0, k1, k2, k3, k4, k5]) rfl HO2.out

theorem along_more (o : PO) (n : ByteArray) (path : List ByteArray) (hp : 0 < path.length) (ih : AlongOK o path) (hd : ∀ v, alongV o (n :: path) v = if v.kind ≠ 5 then .error 5 else ((alongV o path (valF v.fields n)).map some).map fun y => v.setF (putV v.fields n y)) : AlongOK o (n :: path) := by
  intro v pa pl pc oa oc ob od la lc fa fc pb poff pk k w S hS hv ho hs hpk hpm hok hk h6
  rw [List.length_cons] at hpk
  have h := along_core o n path.length ((alongV o path (valF v.fields n)).map some) v pa pl pc oa oc ob od la lc fa fc pb poff pk k w S hS hv hs.1 (by have := hs.2 0 (by simp); simpa using this) hpk hok hk
    (fun W xa xc xb xd off' hW hx hoff => by
      have e := hoff hp
      subst e
      exact field_more ih hp (valF v.fields n) pa pl pc oa oc ob od xa xc xb xd (isF v.fields n) pb (poff + 1) (pk - 1) k W S (fun q hq => Nat.lt_of_lt_of_le (hS q hq) hW.size) hx (V.At.below ho hW) (hs.tail.below hW) (by omega) (by omega) (valF_okv (okv_iff.1 hok).2.2) hk h6)
  rw [hd]
  exact h

theorem along_all (o : PO) : ∀ path : List ByteArray, 0 < path.length → AlongOK o path
  | [], h => by simp at h
  | [n], _ => along_one o n
  | n :: m :: r, _ => along_more o n (m :: r) (by simp) (along_all o (m :: r) (by simp)) fun v => by
    rw [alongV]
    split
    · rfl
    · cases alongV o (m :: r) (valF v.fields n) <;> rfl

end Go.Proofs.Ytcocljgafhpdaaa
end

section
namespace Go.Proofs.Ytcocljgafhpdaaa
open Go.RowKit

def fitsO (o : PO) : Bool := if o.kind = 1 then true else if o.kind = 2 then o.val.kind == 0 else if o.kind = 3 then o.val.kind == 2 else false
def rightO (o : PO) : Bool := decide (1 ≤ o.path.length) && (decide (o.path.length ≤ 16) && (fitsO o && o.val.right 32))

set_option maxHeartbeats 4000000 in
set_option maxRecDepth 100000 in
theorem fits_any (o : PO) (pa : Option Addr) (pl pc : Nat) (oa : Option Addr) (ol oc : Nat) (ob : Option Addr) (om od : Nat) (w : World) :
    Calls Try.prog 45 #[.agg #[.int .i64 o.kind, .slice pa pl pc, .int .i64 o.val.kind, .bool o.val.yes, .int .i64 o.val.num, .string o.val.text, .slice oa ol oc, .slice ob om od]] w fun e w' => e = .returned (.bool (fitsO o)) ∧ Below w.heap.size w w' := by
  have HB := Lib.hid ((Below.refl _ w).alloc (Nat.le_refl _) (.cells #[.int .i64 o.kind, .slice pa pl pc, .int .i64 o.val.kind, .bool o.val.yes, .int .i64 o.val.num, .string o.val.text, .slice oa ol oc, .slice ob om od] 50))
  unfold fitsO
  by_cases k1 : o.kind = 1
  · rw [if_pos k1]
    have g1 : (o.kind == 1) = true := by rw [beq_iff_eq]; exact k1
    clear k1
    go_enter Try.func45, Try.ntmps45
    go_wp2
    go_ret
    exact ⟨rfl, HB.out⟩
  rw [if_neg k1]
  have g1 : (o.kind == 1) = false := by rw [beq_eq_false_iff_ne]; exact k1
  by_cases k2 : o.kind = 2
  · rw [if_pos k2]
    have g2 : (o.kind == 2) = true := by rw [beq_iff_eq]; exact k2
    clear k1 k2
    go_enter Try.func45, Try.ntmps45
    go_wp2
    go_ret
    exact ⟨rfl, HB.out⟩
  rw [if_neg k2]
  have g2 : (o.kind == 2) = false := by rw [beq_eq_false_iff_ne]; exact k2
  by_cases k3 : o.kind = 3
  · rw [if_pos k3]
    have g3 : (o.kind == 3) = true := by rw [beq_iff_eq]; exact k3
    clear k1 k2 k3
    go_enter Try.func45, Try.ntmps45
    go_wp2
    go_ret
    exact ⟨rfl, HB.out⟩
  rw [if_neg k3]
  have g3 : (o.kind == 3) = false := by rw [beq_eq_false_iff_ne]; exact k3
  clear k1 k2 k3
  go_enter Try.func45, Try.ntmps45
  go_wp2
  go_ret
  exact ⟨rfl, HB.out⟩

set_option maxHeartbeats 4000000 in
set_option maxRecDepth 100000 in
theorem opright_any (o : PO) (pa : Option Addr) (pc : Nat) (oa : Option Addr) (oc : Nat) (ob : Option Addr) (od : Nat) (w : World) (ho : o.val.Is w (.slice oa o.val.list.length oc) (.slice ob o.val.fields.length od)) (hpl : o.path.length ≤ maxLen) :
    Calls Try.prog 22 #[.agg #[.int .i64 o.kind, .slice pa o.path.length pc, .int .i64 o.val.kind, .bool o.val.yes, .int .i64 o.val.num, .string o.val.text, .slice oa o.val.list.length oc, .slice ob o.val.fields.length od]] w fun e w' => e = .returned (.bool (rightO o)) ∧ Below w.heap.size w w' := by
  have hA : Below w.heap.size w (w.alloc (.cells #[.int .i64 o.kind, .slice pa o.path.length pc, .int .i64 o.val.kind, .bool o.val.yes, .int .i64 o.val.num, .string o.val.text, .slice oa o.val.list.length oc, .slice ob o.val.fields.length od] 50)) := (Below.refl _ w).alloc (Nat.le_refl _) _
  have HB := Lib.hid hA
  have HO := Lib.hid (V.Is.below ho hA)
  have hbx := Box.new w 50 #[.int .i64 o.kind, .slice pa o.path.length pc, .int .i64 o.val.kind, .bool o.val.yes, .int .i64 o.val.num, .string o.val.text, .slice oa o.val.list.length oc, .slice ob o.val.fields.length od]
  have HBX := Lib.hid hbx
  obtain ⟨L, hL⟩ : ∃ L, L = o.path.length := ⟨_, rfl⟩
  have hfits := fun W => fits_any o pa o.path.length pc oa o.val.list.length oc ob o.val.fields.length od W
  unfold rightO
  rw [← hL] at hpl hfits HB HO HBX ⊢
  have HFT := Lib.hid hfits
  clear hL ho hA hbx hfits
  unfold maxLen at hpl
  by_cases h1 : 1 ≤ L
  · have h1' : (1 : Int) ≤ (L : Int) := by omega
    by_cases h2 : L ≤ 16
    · have h2' : (L : Int) ≤ 16 := by omega
      rw [decide_eq_true h1, decide_eq_true h2, Bool.true_and, Bool.true_and]
      obtain ⟨b, hb⟩ : ∃ b, b = fitsO o := ⟨_, rfl⟩
      rw [← hb] at HFT ⊢
      clear hb
      cases b with
      | false =>
        rw [Bool.false_and]
        go_enter Try.func22, Try.ntmps22
        go_wp2_with fail
        refine (HFT.out _).mono ?_
        rintro e w1 ⟨rfl, hb1⟩
        have HF := Lib.hid (HB.out.trans (hb1.mono HB.out.size))
        clear hb1
        go_wp2
        go_ret
        exact ⟨rfl, HF.out⟩
      | true =>
        rw [Bool.true_and]
        obtain ⟨r, hr0⟩ : ∃ r, r = o.val.right 32 := ⟨_, rfl⟩
        rw [← hr0]
        have HR0 := Lib.hid hr0
        clear hr0
        go_enter Try.func22, Try.ntmps22
        go_wp2_with fail
        refine (HFT.out _).mono ?_
        rintro e w1 ⟨rfl, hb1⟩
        obtain ⟨o0, o1, o2, o3, o4, o5, o6, o7⟩ := Box.eight (show Box w1 w.heap.size 50 #[.int .i64 o.kind, .slice pa L pc, .int .i64 o.val.kind, .bool o.val.yes, .int .i64 o.val.num, .string o.val.text, .slice oa o.val.list.length oc, .slice ob o.val.fields.length od] from (hb1.block _ HBX.out.lt).trans HBX.out)
        have hr := right_any o.val _ _ w1 (HO.out.below hb1)
        rw [← HR0.out] at hr
        have HR := Lib.hid hr
        have HF := Lib.hid (HB.out.trans (hb1.mono HB.out.size))
        clear hb1 hr HR0
        go_wp2_with fail
        refine HR.out.mono ?_
        rintro e w2 ⟨rfl, hb2⟩
        have HF2 := Lib.hid (HF.out.trans (hb2.mono HF.out.size))
        clear hb2 o0 o1 o2 o3 o4 o5 o6 o7
        go_wp2
        go_ret
        exact ⟨rfl, HF2.out⟩
    · have h2' : ¬ (L : Int) ≤ 16 := by omega
      rw [decide_eq_false h2, Bool.false_and, Bool.and_false]
      go_enter Try.func22, Try.ntmps22
      go_wp2
      go_ret
      exact ⟨rfl, HB.out⟩
  · have h1' : ¬ (1 : Int) ≤ (L : Int) := by omega
    rw [decide_eq_false h1, Bool.false_and]
    go_enter Try.func22, Try.ntmps22
    go_wp2
    go_ret
    exact ⟨rfl, HB.out⟩

set_option maxHeartbeats 4000000 in
set_option maxRecDepth 100000 in
theorem pclone_any (v : V) (la : Option Addr) (lc : Nat) (fa : Option Addr) (fc : Nat) (w : World) (hv : v.Is w (.slice la v.list.length lc) (.slice fa v.fields.length fc)) (hsm : v.sm) :
    Calls Try.prog 44 #[.agg #[.int .i64 v.kind, .bool v.yes, .int .i64 v.num, .string v.text, .slice la v.list.length lc, .slice fa v.fields.length fc]] w fun e w' =>
      ∃ a c a' c', e = .returned (.agg #[.int .i64 v.kind, .bool v.yes, .int .i64 v.num, .string v.text, .slice a v.list.length c, .slice a' v.fields.length c']) ∧ v.At w' (fun q => w.heap.size ≤ q) (.slice a v.list.length c) (.slice a' v.fields.length c') ∧ Below w.heap.size w w' := by
  obtain ⟨W0, hW0⟩ : ∃ W0, W0 = (w.alloc (.cells #[.int .i64 v.kind, .bool v.yes, .int .i64 v.num, .string v.text, .slice la v.list.length lc, .slice fa v.fields.length fc] 26)).alloc (.cells #[.int .i64 0, .bool false, .int .i64 0, .string ⟨#[]⟩, .slice none 0 0, .slice none 0 0] 26) := ⟨_, rfl⟩
  have hb0 : Below w.heap.size w W0 := by rw [hW0]; exact ((Below.refl _ w).alloc (Nat.le_refl _) _).alloc (by simp) _
  have hz0 : W0.heap.size = w.heap.size + 1 + 1 := by rw [hW0]; simp
  have hZ : Box W0 (w.heap.size + 1) 26 #[.int .i64 0, .bool false, .int .i64 0, .string ⟨#[]⟩, .slice none 0 0, .slice none 0 0] := by
    rw [hW0]
    have h9 := Box.new (w.alloc (.cells #[.int .i64 v.kind, .bool v.yes, .int .i64 v.num, .string v.text, .slice la v.list.length lc, .slice fa v.fields.length fc] 26)) 26 #[.int .i64 0, .bool false, .int .i64 0, .string ⟨#[]⟩, .slice none 0 0, .slice none 0 0]
    rw [show (w.alloc (.cells #[.int .i64 v.kind, .bool v.yes, .int .i64 v.num, .string v.text, .slice la v.list.length lc, .slice fa v.fields.length fc] 26)).heap.size = w.heap.size + 1 by simp] at h9
    exact h9
  have hA : Below W0.heap.size W0 (W0.alloc (.cells #[.int .i64 v.kind, .bool v.yes, .int .i64 v.num, .string v.text, .slice la v.list.length lc, .slice fa v.fields.length fc] 26)) := (Below.refl _ W0).alloc (Nat.le_refl _) _
  have hone : LAt (W0.alloc (.cells #[.int .i64 v.kind, .bool v.yes, .int .i64 v.num, .string v.text, .slice la v.list.length lc, .slice fa v.fields.length fc] 26)) All [v] (.slice (some ⟨w.heap.size + 1 + 1, 0, none⟩) 1 1) := by
    rw [← hz0]
    exact one_at (t := 26) (Box.new W0 26 _) trivial (Nat.le_refl _) (by decide) ((V.Is.below hv hb0).below hA)
  have hcall := ofList_any [v] (fun x hx => by rw [show x = v by simpa using hx]; exact hsm) (by simp) _ _ hone
  have HC := Lib.hid hcall
  have HZ := Lib.hid (And.intro hb0 (And.intro hz0 (And.intro hZ hA)))
  have hfl : ∀ lv W, (Instr.field 26 (.agg #[.int .i64 4, .bool false, .int .i64 0, .string ⟨#[]⟩, lv, .slice none 0 0]) 4).run Try.prog W = .ok lv W := fun lv W => by kernel_rfl
  rw [hW0] at HC
  clear hcall hone hb0 hz0 hZ hA hv hsm
  go_enter Try.func44, Try.ntmps44
  go_wp2_with fail
  refine HC.out.mono ?_
  rintro e w1 ⟨lv, rfl, hat, hb1⟩
  obtain ⟨hb0, hz0, hZ, hA⟩ := HZ.out
  obtain ⟨⟨ga, gc, e1, hc1, _, hl⟩, _⟩ := V.at_iff.1 hat
  have e2 : lv = .slice ga 1 gc := e1
  subst e2
  rw [← hW0] at hb1 hl
  obtain ⟨b, off, rfl, hS, hlt, hcl⟩ : ∃ b off, ga = some ⟨b, off, none⟩ ∧ (W0.alloc (.cells #[.int .i64 v.kind, .bool v.yes, .int .i64 v.num, .string v.text, .slice la v.list.length lc, .slice fa v.fields.length fc] 26)).heap.size ≤ b ∧ b < w1.heap.size ∧ LCells w1 (fun q => (W0.alloc (.cells #[.int .i64 v.kind, .bool v.yes, .int .i64 v.num, .string v.text, .slice la v.list.length lc, .slice fa v.fields.length fc] 26)).heap.size ≤ q) b off [v] := hl.resolve_left (by intro e; cases e)
  obtain ⟨lv2, fv2, hin, hat2⟩ := hcl.get (i := 0) (by simp)
  obtain ⟨⟨qa, qc, rfl⟩, ⟨qb, qd, rfl⟩, _, _⟩ := hat2.is.len
  simp only [List.getElem_cons_zero, Nat.zero_mul, Nat.add_zero] at hin hat2
  have p0 := hin 0 _ rfl
  rw [Nat.add_zero] at p0
  have p1 := hin 1 _ rfl
  have p2 := hin 2 _ rfl
  have p3 := hin 3 _ rfl
  have p4 := hin 4 _ rfl
  have p5 := hin 5 _ rfl
  have hz2 : (W0.alloc (.cells #[.int .i64 v.kind, .bool v.yes, .int .i64 v.num, .string v.text, .slice la v.list.length lc, .slice fa v.fields.length fc] 26)).heap.size = w.heap.size + 1 + 1 + 1 := by simp [hz0]
  have hz1 : w.heap.size + 1 + 1 + 1 ≤ b := by rw [hz2] at hS; exact hS
  rw [hz2] at hat2
  have hZ1 : Box w1 (w.heap.size + 1) 26 #[.int .i64 0, .bool false, .int .i64 0, .string ⟨#[]⟩, .slice none 0 0, .slice none 0 0] := (hb1.block _ (by omega)).trans ((hA.block _ (by omega)).trans hZ)
  have hb01 : Below w.heap.size w w1 := hb0.trans ((hA.mono hb0.size).trans (hb1.mono (by omega)))
  obtain ⟨k0, k1, k2, k3, k4, k5⟩ := box_ends (c0 := .int .i64 v.kind) (c1 := .bool v.yes) (c2 := .int .i64 v.num) (c3 := .string v.text) (c4 := .slice qa v.list.length qc) (c5 := .slice qb v.fields.length qd) hZ1
  simp only [sets, Nat.zero_add, Nat.reduceAdd] at k0 k1 k2 k3 k4 k5
  have HO : Hid (v.At (sets w1 (w.heap.size + 1) 0 [.int .i64 v.kind, .bool v.yes, .int .i64 v.num, .string v.text, .slice qa v.list.length qc, .slice qb v.fields.length qd]) (fun q => w.heap.size ≤ q) (.slice qa v.list.length qc) (.slice qb v.fields.length qd) ∧ Below w.heap.size w (sets w1 (w.heap.size + 1) 0 [.int .i64 v.kind, .bool v.yes, .int .i64 v.num, .string v.text, .slice qa v.list.length qc, .slice qb v.fields.length qd])) :=
    Lib.hid ⟨at_ends hat2 (fun q hq => ⟨by omega, by omega⟩) _, below_ends hb01 (by omega) _⟩
  obtain ⟨⟨z0, z1, z2, z3, z4, z5⟩, s0, s1, s2, s3, s4, s5⟩ := hZ1.six
  have hzl := hZ1.lt
  clear hin hat2 hcl hl hat hb1 hZ1 hb01 hZ hA hb0 hz0 hz1 hz2 hS e1 hc1 HZ HC hW0
  go_wp2
  refine bodyPost_ret (v := .agg #[.int .i64 v.kind, .bool v.yes, .int .i64 v.num, .string v.text, .slice qa v.list.length qc, .slice qb v.fields.length qd]) (by simp [results, Try.results44, go_sem, k0, k1, k2, k3, k4, k5]) rfl ⟨qa, qc, qb, qd, rfl, HO.out.1, HO.out.2⟩

end Go.Proofs.Ytcocljgafhpdaaa
end

section
namespace Go.Proofs.Ytcocljgafhpdaaa
open Go.RowKit

/-- an operation as it lies -/
def OpAt (w : World) (S : Nat → Prop) (b off : Nat) (o : PO) : Prop :=
  ∃ pa pc oa oc ob od, InAt w b off [.int .i64 o.kind, .slice pa o.path.length pc, .int .i64 o.val.kind, .bool o.val.yes, .int .i64 o.val.num, .string o.val.text, .slice oa o.val.list.length oc, .slice ob o.val.fields.length od] ∧
    (o.path.length ≤ pc ∧ pc ≤ maxLen) ∧ (o.path = [] ∨ ∃ pb poff, pa = some ⟨pb, poff, none⟩ ∧ StrAt w pb poff o.path) ∧ o.val.At w S (.slice oa o.val.list.length oc) (.slice ob o.val.fields.length od)

theorem OpAt.below {w w' : World} {S : Nat → Prop} {b off : Nat} {o : PO} (h : OpAt w S b off o) (hlt : b < w.heap.size) (hb : Below w.heap.size w w') : OpAt w' S b off o := by
  obtain ⟨pa, pc, oa, oc, ob, od, h1, h2, h3, h4⟩ := h
  exact ⟨pa, pc, oa, oc, ob, od, h1.keep (hb.block b hlt), h2, h3.imp id fun ⟨pb, poff, e, hs⟩ => ⟨pb, poff, e, hs.below hb⟩, h4.below hb⟩

/-- operations in a slice -/
def OpsAt (w : World) (S : Nat → Prop) (a : Option Addr) (ops : List PO) : Prop :=
  ops = [] ∨ ∃ b off, a = some ⟨b, off, none⟩ ∧ b < w.heap.size ∧ ∀ i (h : i < ops.length), OpAt w S b (off + i * 8) (ops[i])

theorem OpsAt.below {w w' : World} {S : Nat → Prop} {a : Option Addr} {ops : List PO} (h : OpsAt w S a ops) (hb : Below w.heap.size w w') : OpsAt w' S a ops :=
  h.imp id fun ⟨b, off, e, hlt, h⟩ => ⟨b, off, e, Nat.lt_of_lt_of_le hlt hb.size, fun i hi => (h i hi).below hlt hb⟩

theorem InAt.eight {w : World} {b off : Nat} {c0 c1 c2 c3 c4 c5 c6 c7 : Value} (h : InAt w b off [c0, c1, c2, c3, c4, c5, c6, c7]) :
    w.cell? ⟨b, off, none⟩ = some c0 ∧ w.cell? ⟨b, off + 1, none⟩ = some c1 ∧ w.cell? ⟨b, off + 2, none⟩ = some c2 ∧ w.cell? ⟨b, off + 3, none⟩ = some c3 ∧ w.cell? ⟨b, off + 4, none⟩ = some c4 ∧ w.cell? ⟨b, off + 5, none⟩ = some c5 ∧ w.cell? ⟨b, off + 6, none⟩ = some c6 ∧ w.cell? ⟨b, off + 7, none⟩ = some c7 :=
  ⟨h 0 _ rfl, h 1 _ rfl, h 2 _ rfl, h 3 _ rfl, h 4 _ rfl, h 5 _ rfl, h 6 _ rfl, h 7 _ rfl⟩

/-- the first error of operations as they stand -/
def checkV (ops : List PO) : Int := if 50 < ops.length then 4 else if ops.all rightO then 0 else 1

set_option maxHeartbeats 4000000 in
set_option maxRecDepth 100000 in
theorem check_any (ops : List PO) (a : Option Addr) (c : Nat) (w : World) (h : OpsAt w All a ops) (hl : ops.length ≤ 100000) :
    Calls Try.prog 42 #[.slice a ops.length c] w fun e w' => e = .returned (.int .i64 (checkV ops)) ∧ Below w.heap.size w w' := by
  by_cases h50 : 50 < ops.length
  · have h1 : (50 : Int) < (ops.length : Int) := by omega
    unfold checkV
    rw [if_pos h50]
    clear h
    go_enter Try.func42, Try.ntmps42
    go_wp2
    go_ret
    exact ⟨rfl, Below.refl _ _⟩
  have h1 : ¬ (50 : Int) < (ops.length : Int) := by omega
  have hcv : checkV ops = if ops.all rightO then 0 else 1 := by unfold checkV; rw [if_neg h50]
  have HCV := Lib.hid hcv
  have HO := Lib.hid h
  clear h hcv
  go_enter Try.func42, Try.ntmps42
  go_wp2
  go_loopw [10] (fun i wr => ∃ k : Nat, k ≤ ops.length ∧ i = .int .i64 k ∧ Hid (Below w.heap.size w wr ∧ ∀ j (h : j < ops.length), j < k → rightO (ops[j]) = true)) (fun i _ => ops.length - (intOf i).toNat)
  case atStart => exact ⟨0, Nat.zero_le _, rfl, Lib.hid ⟨Below.refl _ _, fun j _ hj => by omega⟩⟩
  case round =>
    obtain ⟨k, hk, rfl, HR⟩ := hrel
    by_cases hlt : k < ops.length
    · obtain ⟨b, off, rfl, hb, hops⟩ := (HO.out.below HR.out.1).resolve_left (by intro e; rw [e] at hlt; simp at hlt)
      obtain ⟨pa, pc, oa, oc, ob, od, hin, hpl, hpt, hat⟩ := hops k hlt
      clear hpt
      have hnext : rightO (ops[k]) = true → ∀ j (h : j < ops.length), j < k + 1 → rightO (ops[j]) = true := fun hp j h hj => by
        by_cases e : j = k
        · subst e; exact hp
        · exact HR.out.2 j h (by omega)
      have hstop : rightO (ops[k]) = false → checkV ops = 1 := fun hp => by
        rw [HCV.out, if_neg]
        intro hall
        rw [List.all_eq_true.1 hall _ (List.getElem_mem hlt)] at hp
        cases hp
      obtain ⟨o, ho⟩ : ∃ o, o = ops[k] := ⟨_, rfl⟩
      rw [← ho] at hin hpl hat hnext hstop
      obtain ⟨p0, p1, p2, p3, p4, p5, p6, p7⟩ := hin.eight
      have hkl : (k : Int) < (ops.length : Int) := by omega
      have hA : Below wr.heap.size wr (wr.alloc (.cells #[.int .i64 o.kind, .slice pa o.path.length pc, .int .i64 o.val.kind, .bool o.val.yes, .int .i64 o.val.num, .string o.val.text, .slice oa o.val.list.length oc, .slice ob o.val.fields.length od] 50)) := (Below.refl _ wr).alloc (Nat.le_refl _) _
      have hcall := opright_any o pa pc oa oc ob od _ (V.At.below hat hA) (Nat.le_trans hpl.1 hpl.2)
      have HB1 := Lib.hid (HR.out.1.trans (hA.mono HR.out.1.size))
      have HCALL := Lib.hid hcall
      have HLT := Lib.hid hlt
      cases hro : rightO o with
      | false =>
        rw [hro] at HCALL
        have HST := Lib.hid (hstop hro)
        clear hin hat hpl hA hcall hnext hstop ho hro hlt hops HR hb
        go_wp2_with fail
        refine HCALL.out.mono ?_
        rintro e w4 ⟨rfl, hb4⟩
        have HF := Lib.hid (HB1.out.trans (hb4.mono HB1.out.size))
        clear hb4
        go_wp2
        go_ret
        exact ⟨by first | (rw [HST.out]; done) | (rw [HST.out]; rfl), HF.out⟩
      | true =>
        rw [hro] at HCALL
        have HN := Lib.hid (hnext hro)
        clear hin hat hpl hA hcall hnext hstop ho hro hlt hops HR hb
        go_wp2_with fail
        refine HCALL.out.mono ?_
        rintro e w4 ⟨rfl, hb4⟩
        have HF := Lib.hid (And.intro (HB1.out.trans (hb4.mono HB1.out.size)) HN.out)
        clear hb4
        go_wp2
        go_roundw
        case rel => exact ⟨k + 1, by have := HLT.out; omega, by have := HLT.out; go_num, HF⟩
        case measure => have := HLT.out; simp [intOf]; omega
    · obtain rfl : k = ops.length := by omega
      have hge : ¬ (ops.length : Int) < (ops.length : Int) := by omega
      have hz : checkV ops = 0 := by
        rw [HCV.out, if_pos]
        exact List.all_eq_true.2 fun x hx => by
          obtain ⟨j, hj, rfl⟩ := List.getElem_of_mem hx
          exact HR.out.2 j hj hj
      have HZ := Lib.hid hz
      clear hlt hz
      go_wp2
      go_ret
      exact ⟨by first | (rw [HZ.out]; done) | (rw [HZ.out]; rfl), HR.out.1⟩

end Go.Proofs.Ytcocljgafhpdaaa
end

section
namespace Go.Proofs.Ytcocljgafhpdaaa
open Go.RowKit

/-- the operations, one behind the other -/
def runV : List PO → V → Except Int V
  | [], v => .ok v
  | o :: r, v => match alongV o o.path v with
    | .error c => .error c
    | .ok y => runV r y

/-- what Apply gives -/
def applyV (v : V) (ops : List PO) : Except Int V :=
  if checkV ops ≠ 0 then .error (checkV ops) else match runV ops v with
    | .error c => .error c
    | .ok y => if y.right 32 = true then .ok y else .error 3

/-- the value behind the first k operations -/
def AP (w : World) (ops : List PO) (v : V) (K k : Nat) (W : World) : Prop :=
  ∃ u ua uc ub ud, Box W w.heap.size 26 #[.int .i64 u.kind, .bool u.yes, .int .i64 u.num, .string u.text, .slice ua u.list.length uc, .slice ub u.fields.length ud] ∧ Box W (w.heap.size + 1) 26 #[.int .i64 0, .bool false, .int .i64 0, .string ⟨#[]⟩, .slice none 0 0, .slice none 0 0] ∧ u.At W (fun q => q < w.heap.size ∨ w.heap.size + 2 ≤ q) (.slice ua u.list.length uc) (.slice ub u.fields.length ud) ∧ u.okv (K + k) ∧ runV (ops.drop k) u = runV ops v ∧ Below w.heap.size w W

set_option maxHeartbeats 4000000 in
set_option maxRecDepth 100000 in
theorem apply_any (v : V) (ops : List PO) (la : Option Addr) (lc : Nat) (fa : Option Addr) (fc : Nat) (a : Option Addr) (c : Nat) (K : Nat) (w : World) (hv : v.Is w (.slice la v.list.length lc) (.slice fa v.fields.length fc)) (h : OpsAt w All a ops) (hl : ops.length ≤ 100000) (hok : v.okv K) (hK : K ≤ 80000) (hoo : ∀ o ∈ ops, rightO o = true → o.val.okv K) :
    Calls Try.prog 21 #[.agg #[.int .i64 v.kind, .bool v.yes, .int .i64 v.num, .string v.text, .slice la v.list.length lc, .slice fa v.fields.length fc], .slice a ops.length c] w (ResP (applyV v ops) (fun _ => False) w) := by
  have hb2 : Below w.heap.size w ((w.alloc (.cells #[.int .i64 v.kind, .bool v.yes, .int .i64 v.num, .string v.text, .slice la v.list.length lc, .slice fa v.fields.length fc] 26)).alloc (.cells #[.int .i64 0, .bool false, .int .i64 0, .string ⟨#[]⟩, .slice none 0 0, .slice none 0 0] 26)) := ((Below.refl _ w).alloc (Nat.le_refl _) _).alloc (by simp) _
  have hbox : Box ((w.alloc (.cells #[.int .i64 v.kind, .bool v.yes, .int .i64 v.num, .string v.text, .slice la v.list.length lc, .slice fa v.fields.length fc] 26)).alloc (.cells #[.int .i64 0, .bool false, .int .i64 0, .string ⟨#[]⟩, .slice none 0 0, .slice none 0 0] 26)) w.heap.size 26 #[.int .i64 v.kind, .bool v.yes, .int .i64 v.num, .string v.text, .slice la v.list.length lc, .slice fa v.fields.length fc] ∧ Box ((w.alloc (.cells #[.int .i64 v.kind, .bool v.yes, .int .i64 v.num, .string v.text, .slice la v.list.length lc, .slice fa v.fields.length fc] 26)).alloc (.cells #[.int .i64 0, .bool false, .int .i64 0, .string ⟨#[]⟩, .slice none 0 0, .slice none 0 0] 26)) (w.heap.size + 1) 26 #[.int .i64 0, .bool false, .int .i64 0, .string ⟨#[]⟩, .slice none 0 0, .slice none 0 0] := by
    have e1 := (Box.new w 26 #[.int .i64 v.kind, .bool v.yes, .int .i64 v.num, .string v.text, .slice la v.list.length lc, .slice fa v.fields.length fc]).alloc (.cells #[.int .i64 0, .bool false, .int .i64 0, .string ⟨#[]⟩, .slice none 0 0, .slice none 0 0] 26)
    have e2 := Box.new (w.alloc (.cells #[.int .i64 v.kind, .bool v.yes, .int .i64 v.num, .string v.text, .slice la v.list.length lc, .slice fa v.fields.length fc] 26)) 26 #[.int .i64 0, .bool false, .int .i64 0, .string ⟨#[]⟩, .slice none 0 0, .slice none 0 0]
    rw [show (w.alloc (.cells #[.int .i64 v.kind, .bool v.yes, .int .i64 v.num, .string v.text, .slice la v.list.length lc, .slice fa v.fields.length fc] 26)).heap.size = w.heap.size + 1 by simp] at e2
    exact ⟨e1, e2⟩
  have hcheck := check_any ops a c _ (h.below hb2) hl
  have HCK := Lib.hid hcheck
  have HB := Lib.hid (And.intro hb2 hbox)
  have HV := Lib.hid (And.intro hv (And.intro hok hoo))
  have HO := Lib.hid h
  clear hb2 hbox hcheck hv hok hoo h
  by_cases hc0 : checkV ops = 0
  · have HC0 := Lib.hid hc0
    rw [hc0] at HCK
    have hap : applyV v ops = match runV ops v with | .error c => .error c | .ok y => if y.right 32 = true then .ok y else .error 3 := by unfold applyV; rw [if_neg (by simp [hc0])]
    rw [hap]
    obtain ⟨R0, hR0⟩ : ∃ R0, R0 = ((match runV ops v with | .error c => .error c | .ok y => if y.right 32 = true then .ok y else .error 3) : Except Int V) := ⟨_, rfl⟩
    rw [← hR0]
    have HR0 := Lib.hid hR0
    clear hc0 hap hR0
    go_enter Try.func21, Try.ntmps21
    go_wp2_with fail
    refine HCK.out.mono ?_
    rintro e w1 ⟨rfl, hb1⟩
    have h50 : ops.length ≤ 50 ∧ ∀ o ∈ ops, rightO o = true := by
      have h := HC0.out
      unfold checkV at h
      split at h
      · omega
      · split at h
        · rename_i h1 h2
          exact ⟨by omega, fun o ho => List.all_eq_true.1 h2 o ho⟩
        · omega
    have HST : Hid (AP w ops v K 0 w1) := Lib.hid ⟨v, la, lc, fa, fc, (hb1.block _ HB.out.2.1.lt).trans HB.out.2.1, (hb1.block _ HB.out.2.2.lt).trans HB.out.2.2, V.At.move (fun q _ hq => ⟨.inl hq, (HB.out.1.trans (hb1.mono HB.out.1.size)).block q hq⟩) (HB.out.1.trans (hb1.mono HB.out.1.size)).size _ (Nat.le_refl _) HV.out.1, HV.out.2.1, rfl, HB.out.1.trans (hb1.mono HB.out.1.size)⟩
    have HR50 := Lib.hid h50
    clear hb1 h50 HCK HB
    go_wp2_with fail
    go_loopw [19] (fun i wr => ∃ k : Nat, k ≤ ops.length ∧ i = .int .i64 k ∧ Hid (AP w ops v K k wr)) (fun i _ => ops.length - (intOf i).toNat)
    case atStart => exact ⟨0, Nat.zero_le _, rfl, HST⟩
    case round =>
      obtain ⟨k, hk, rfl, HR⟩ := hrel
      clear HST
      obtain ⟨u, ua, uc, ub, ud, hub, hzb, hat, hok, hrun, hbw⟩ := HR.out
      by_cases hlt : k < ops.length
      · obtain ⟨b, off, rfl, hb, hops⟩ := (HO.out.below hbw).resolve_left (by intro e; rw [e] at hlt; simp at hlt)
        obtain ⟨b', off', e', hb', hops0⟩ := HO.out.resolve_left (by intro e; rw [e] at hlt; simp at hlt)
        obtain ⟨pa, pc, oa, oc, ob, od, hin, hpl, hpt, hoat⟩ := hops0 k hlt
        obtain ⟨rfl, rfl⟩ : b = b' ∧ off = off' := by injection e' with e'; injection e' with e1 e2; exact ⟨e1, e2⟩
        have hro := HR50.out.2 _ (List.getElem_mem hlt)
        have hoo := HV.out.2.2 _ (List.getElem_mem hlt) hro
        have hdrop := List.drop_eq_getElem_cons hlt
        obtain ⟨o, ho⟩ : ∃ o, o = ops[k] := ⟨_, rfl⟩
        rw [← ho] at hin hpl hpt hoat hro hoo hdrop
        have hpn : 1 ≤ o.path.length := by
          unfold rightO at hro
          rw [Bool.and_eq_true] at hro
          exact of_decide_eq_true hro.1
        obtain ⟨pb, poff, rfl, hstr⟩ := hpt.resolve_left (by intro e; rw [e] at hpn; simp at hpn)
        obtain ⟨p0, p1, p2, p3, p4, p5, p6, p7⟩ := (hin.keep (hbw.block b hb')).eight
        rw [hdrop] at hrun
        have hA : Below wr.heap.size wr (wr.alloc (.cells #[.int .i64 o.kind, .slice (some ⟨pb, poff, none⟩) o.path.length pc, .int .i64 o.val.kind, .bool o.val.yes, .int .i64 o.val.num, .string o.val.text, .slice oa o.val.list.length oc, .slice ob o.val.fields.length od] 50)) := (Below.refl _ wr).alloc (Nat.le_refl _) _
        have hbA := hbw.trans (hA.mono hbw.size)
        have hcall := along_all o o.path hpn u (some ⟨pb, poff, none⟩) o.path.length pc oa oc ob od ua uc ub ud pb poff pc (K + k) (wr.alloc (.cells #[.int .i64 o.kind, .slice (some ⟨pb, poff, none⟩) o.path.length pc, .int .i64 o.val.kind, .bool o.val.yes, .int .i64 o.val.num, .string o.val.text, .slice oa o.val.list.length oc, .slice ob o.val.fields.length od] 50)) (fun q => (q < w.heap.size ∨ w.heap.size + 2 ≤ q) ∧ q < (wr.alloc (.cells #[.int .i64 o.kind, .slice (some ⟨pb, poff, none⟩) o.path.length pc, .int .i64 o.val.kind, .bool o.val.yes, .int .i64 o.val.num, .string o.val.text, .slice oa o.val.list.length oc, .slice ob o.val.fields.length od] 50)).heap.size) (fun q hq => hq.2)
          (V.At.move (fun q hq hl => ⟨⟨hq, Nat.lt_of_lt_of_le hl hA.size⟩, hA.block q hl⟩) hA.size _ (Nat.le_refl _) hat)
          (V.At.move (fun q _ hl => ⟨⟨.inl hl, Nat.lt_of_lt_of_le hl hbA.size⟩, hbA.block q hl⟩) hbA.size _ (Nat.le_refl _) hoat)
          (hstr.below hbA) hpl.1 hpl.2 hok (by have := HR50.out.1; omega) (okv_iff.1 hoo).1.2.2.2
        have hkl : (k : Int) < (ops.length : Int) := by omega
        obtain ⟨⟨u0, u1, u2, u3, u4, u5⟩, fu0, fu1, fu2, fu3, fu4, fu5⟩ := hub.six
        have hul := hub.lt
        have HCALL := Lib.hid hcall
        have HLT := Lib.hid hlt
        have HW2 : Hid (∀ w2, Below (wr.alloc (.cells #[.int .i64 o.kind, .slice (some ⟨pb, poff, none⟩) o.path.length pc, .int .i64 o.val.kind, .bool o.val.yes, .int .i64 o.val.num, .string o.val.text, .slice oa o.val.list.length oc, .slice ob o.val.fields.length od] 50)).heap.size (wr.alloc (.cells #[.int .i64 o.kind, .slice (some ⟨pb, poff, none⟩) o.path.length pc, .int .i64 o.val.kind, .bool o.val.yes, .int .i64 o.val.num, .string o.val.text, .slice oa o.val.list.length oc, .slice ob o.val.fields.length od] 50)) w2 → Box w2 w.heap.size 26 #[.int .i64 u.kind, .bool u.yes, .int .i64 u.num, .string u.text, .slice ua u.list.length uc, .slice ub u.fields.length ud] ∧ Box w2 (w.heap.size + 1) 26 #[.int .i64 0, .bool false, .int .i64 0, .string ⟨#[]⟩, .slice none 0 0, .slice none 0 0] ∧ Below w.heap.size w w2) := Lib.hid fun w2 hb2 =>
          ⟨(hb2.block _ (Nat.lt_of_lt_of_le hub.lt hA.size)).trans ((hA.block _ hub.lt).trans hub), (hb2.block _ (Nat.lt_of_lt_of_le hzb.lt hA.size)).trans ((hA.block _ hzb.lt).trans hzb), hbA.trans (hb2.mono hbA.size)⟩
        have HOK := Lib.hid (And.intro hok (And.intro (hoo.mono (Nat.le_add_right K k)) hrun))
        have hsz : w.heap.size + 2 ≤ (wr.alloc (.cells #[.int .i64 o.kind, .slice (some ⟨pb, poff, none⟩) o.path.length pc, .int .i64 o.val.kind, .bool o.val.yes, .int .i64 o.val.num, .string o.val.text, .slice oa o.val.list.length oc, .slice ob o.val.fields.length od] 50)).heap.size := by have := hzb.lt; have := hA.size; omega
        have HSZ := Lib.hid hsz
        clear hin hpl hpt hoat hro hoo hdrop ho hpn hstr hA hbA hcall hat hok hrun hbw hub hzb hops hops0 hb hb' e' HR hlt hsz
        go_wp2_with fail
        refine HCALL.out.mono ?_
        rintro e w2 ⟨hb2, hres⟩
        obtain ⟨hub, hzb, hbw⟩ := HW2.out w2 hb2
        cases hal : alongV o o.path u with
        | error cc =>
          rw [hal] at hres
          obtain ⟨hcc, rfl⟩ := hres
          have g1 : (cc != 0) = true := by simp [hcc]
          have hrv : runV ops v = .error cc := by rw [← HOK.out.2.2, runV, hal]
          obtain ⟨k0, k1, k2, k3, k4, k5⟩ := box_ends_alloc (c0 := .int .i64 0) (c1 := .bool false) (c2 := .int .i64 0) (c3 := .string ⟨#[]⟩) (c4 := .slice none 0 0) (c5 := .slice none 0 0) hzb (.cells #[.int .i64 0, .bool false, .int .i64 0, .string ⟨#[]⟩, .slice none 0 0, .slice none 0 0] 26)
          simp only [sets, Nat.zero_add, Nat.reduceAdd] at k0 k1 k2 k3 k4 k5
          have HF : Hid (ResP R0 (fun _ => False) w (.returned (.tuple #[.agg #[.int .i64 0, .bool false, .int .i64 0, .string ⟨#[]⟩, .slice none 0 0, .slice none 0 0], .int .i64 cc])) ((sets w2 (w.heap.size + 1) 0 [.int .i64 0, .bool false, .int .i64 0, .string ⟨#[]⟩, .slice none 0 0, .slice none 0 0]).alloc (.cells #[.int .i64 0, .bool false, .int .i64 0, .string ⟨#[]⟩, .slice none 0 0, .slice none 0 0] 26))) := Lib.hid (by rw [HR0.out, hrv]; exact ⟨below_ends_alloc hbw (by omega) _ _, hcc, rfl⟩)
          obtain ⟨⟨z0, z1, z2, z3, z4, z5⟩, s0, s1, s2, s3, s4, s5⟩ := hzb.six
          have hzl := hzb.lt
          clear u0 u1 u2 u3 u4 u5 fu0 fu1 fu2 fu3 fu4 fu5 hul hb2 hub hzb hbw hrv hcc hal HW2 HCALL HOK HO HV
          go_wp2
          refine bodyPost_ret (v := .tuple #[.agg #[.int .i64 0, .bool false, .int .i64 0, .string ⟨#[]⟩, .slice none 0 0, .slice none 0 0], .int .i64 cc]) (by simp [results, Try.results21, go_sem, k0, k1, k2, k3, k4, k5]) rfl HF.out
        | ok y =>
          rw [hal] at hres
          obtain ⟨ya, yc, yb, yd, rfl, hyat⟩ := hres
          have hrv : runV (ops.drop (k + 1)) y = runV ops v := by rw [← HOK.out.2.2, runV, hal]
          have hyok : y.okv (K + (k + 1)) := alongV_okv HOK.out.2.1 o.path u y HOK.out.1 hal
          have hAP : AP w ops v K (k + 1) ((sets w2 w.heap.size 0 [.int .i64 y.kind, .bool y.yes, .int .i64 y.num, .string y.text, .slice ya y.list.length yc, .slice yb y.fields.length yd]).alloc (.cells #[.int .i64 y.kind, .bool y.yes, .int .i64 y.num, .string y.text, .slice ya y.list.length yc, .slice yb y.fields.length yd] 26)) :=
            ⟨y, ya, yc, yb, yd, (box_sets6 hub _ _ _ _ _ _).alloc _, Box.alloc (show Box (sets w2 w.heap.size 0 [.int .i64 y.kind, .bool y.yes, .int .i64 y.num, .string y.text, .slice ya y.list.length yc, .slice yb y.fields.length yd]) (w.heap.size + 1) 26 #[.int .i64 0, .bool false, .int .i64 0, .string ⟨#[]⟩, .slice none 0 0, .slice none 0 0] from (sets_far _ _ _ _ (by omega)).trans hzb) _, at_ends_alloc hyat (fun q hq => by
              have h9 := HSZ.out
              rcases hq with ⟨hq, _⟩ | hq
              · exact ⟨by omega, hq⟩
              · exact ⟨by omega, .inr (by omega)⟩) _ _, hyok, hrv, below_ends_alloc hbw (Nat.le_refl _) _ _⟩
          have HAP := Lib.hid hAP
          clear u0 u1 u2 u3 u4 u5 fu0 fu1 fu2 fu3 fu4 fu5 hul
          obtain ⟨⟨u0, u1, u2, u3, u4, u5⟩, fu0, fu1, fu2, fu3, fu4, fu5⟩ := hub.six
          have hul := hub.lt
          clear hb2 hub hzb hbw hrv hyok hal hyat hAP HW2 HCALL HOK HSZ
          go_wp2
          go_roundw
          case rel => exact ⟨k + 1, by have := HLT.out; omega, by have := HLT.out; go_num, HAP⟩
          case measure => have := HLT.out; simp [intOf]; omega
      · obtain rfl : k = ops.length := by omega
        have hge : ¬ (ops.length : Int) < (ops.length : Int) := by omega
        rw [List.drop_length, runV] at hrun
        have hright := right_any u _ _ wr hat.is
        have hpost : R0 = (if u.right 32 = true then .ok u else .error 3 : Except Int V) := by rw [HR0.out, ← hrun]
        have HPO := Lib.hid hpost
        obtain ⟨rr, hrr⟩ : ∃ rr, rr = u.right 32 := ⟨_, rfl⟩
        rw [← hrr] at hright HPO
        have HRI := Lib.hid hright
        have HAT := Lib.hid (And.intro hat.is (And.intro hok (And.intro hub (And.intro hzb hbw))))
        obtain ⟨⟨u0, u1, u2, u3, u4, u5⟩, _⟩ := hub.six
        have hul := hub.lt
        clear hat hok hrun hbw hub hzb hright hpost hrr HR hlt HO HV
        go_wp2_with fail
        refine HRI.out.mono ?_
        rintro e w3 ⟨rfl, hb3⟩
        obtain ⟨hat, hok, hub, hzb, hbw⟩ := HAT.out
        have hub3 : Box w3 w.heap.size 26 #[.int .i64 u.kind, .bool u.yes, .int .i64 u.num, .string u.text, .slice ua u.list.length uc, .slice ub u.fields.length ud] := (hb3.block _ hub.lt).trans hub
        have hzb3 : Box w3 (w.heap.size + 1) 26 #[.int .i64 0, .bool false, .int .i64 0, .string ⟨#[]⟩, .slice none 0 0, .slice none 0 0] := (hb3.block _ hzb.lt).trans hzb
        have hb03 := hbw.trans (hb3.mono hbw.size)
        cases rr with
        | false =>
          obtain ⟨k0, k1, k2, k3, k4, k5⟩ := box_ends (c0 := .int .i64 0) (c1 := .bool false) (c2 := .int .i64 0) (c3 := .string ⟨#[]⟩) (c4 := .slice none 0 0) (c5 := .slice none 0 0) hzb3
          simp only [sets, Nat.zero_add, Nat.reduceAdd] at k0 k1 k2 k3 k4 k5
          have HF : Hid (ResP R0 (fun _ => False) w (.returned (.tuple #[.agg #[.int .i64 0, .bool false, .int .i64 0, .string ⟨#[]⟩, .slice none 0 0, .slice none 0 0], .int .i64 3])) (sets w3 (w.heap.size + 1) 0 [.int .i64 0, .bool false, .int .i64 0, .string ⟨#[]⟩, .slice none 0 0, .slice none 0 0])) := Lib.hid (by rw [HPO.out]; exact ⟨below_ends hb03 (by omega) _, by decide, rfl⟩)
          obtain ⟨⟨z0, z1, z2, z3, z4, z5⟩, s0, s1, s2, s3, s4, s5⟩ := hzb3.six
          have hzl := hzb3.lt
          clear u0 u1 u2 u3 u4 u5 hul hat hok hub hzb hbw hub3 hzb3 hb03 hb3 HPO HRI HAT
          go_wp2
          refine bodyPost_ret (v := .tuple #[.agg #[.int .i64 0, .bool false, .int .i64 0, .string ⟨#[]⟩, .slice none 0 0, .slice none 0 0], .int .i64 3]) (by simp [results, Try.results21, go_sem, k0, k1, k2, k3, k4, k5]) rfl HF.out
        | true =>
          have hcl := pclone_any u ua uc ub ud w3 (hat.below hb3) (hok.sm (by have := HR50.out.1; omega))
          have HCL := Lib.hid hcl
          have HH := Lib.hid (And.intro hzb3 hb03)
          clear u0 u1 u2 u3 u4 u5 hul
          obtain ⟨⟨u0, u1, u2, u3, u4, u5⟩, _⟩ := hub3.six
          have hul := hub3.lt
          clear hat hok hub hzb hbw hub3 hzb3 hb03 hb3 HRI HAT hcl
          go_wp2_with fail
          refine HCL.out.mono ?_
          rintro e w4 ⟨ca, cc, cb, cd, rfl, hcat, hb4⟩
          have hzb4 : Box w4 (w.heap.size + 1) 26 #[.int .i64 0, .bool false, .int .i64 0, .string ⟨#[]⟩, .slice none 0 0, .slice none 0 0] := (hb4.block _ HH.out.1.lt).trans HH.out.1
          have hb04 := HH.out.2.trans (hb4.mono HH.out.2.size)
          have hw3 : w.heap.size + 2 ≤ w3.heap.size := by have := HH.out.1.lt; omega
          obtain ⟨k0, k1, k2, k3, k4, k5⟩ := box_ends (c0 := .int .i64 u.kind) (c1 := .bool u.yes) (c2 := .int .i64 u.num) (c3 := .string u.text) (c4 := .slice ca u.list.length cc) (c5 := .slice cb u.fields.length cd) hzb4
          simp only [sets, Nat.zero_add, Nat.reduceAdd] at k0 k1 k2 k3 k4 k5
          have HF : Hid (ResP R0 (fun _ => False) w (.returned (.tuple #[.agg #[.int .i64 u.kind, .bool u.yes, .int .i64 u.num, .string u.text, .slice ca u.list.length cc, .slice cb u.fields.length cd], .int .i64 0])) (sets w4 (w.heap.size + 1) 0 [.int .i64 u.kind, .bool u.yes, .int .i64 u.num, .string u.text, .slice ca u.list.length cc, .slice cb u.fields.length cd])) := Lib.hid (by rw [HPO.out]; exact ⟨below_ends hb04 (by omega) _, ca, cc, cb, cd, rfl, at_ends hcat (fun q hq => ⟨by omega, .inr (by omega)⟩) _⟩)
          obtain ⟨⟨z0, z1, z2, z3, z4, z5⟩, s0, s1, s2, s3, s4, s5⟩ := hzb4.six
          have hzl := hzb4.lt
          clear u0 u1 u2 u3 u4 u5 hul hcat hb4 hzb4 hb04 HPO HCL HH hw3
          go_wp2
          refine bodyPost_ret (v := .tuple #[.agg #[.int .i64 u.kind, .bool u.yes, .int .i64 u.num, .string u.text, .slice ca u.list.length cc, .slice cb u.fields.length cd], .int .i64 0]) (by simp [results, Try.results21, go_sem, k0, k1, k2, k3, k4, k5]) rfl HF.out
  · have HNZ : Hid (applyV v ops = .error (checkV ops)) := Lib.hid (by unfold applyV; rw [if_pos hc0])
    obtain ⟨cc, hcc⟩ : ∃ cc, cc = checkV ops := ⟨_, rfl⟩
    rw [← hcc] at HCK hc0 HNZ
    have g1 : (cc != 0) = true := by simp [hc0]
    have HC0 := Lib.hid hc0
    rw [HNZ.out]
    clear hcc hc0 HNZ HO HV
    go_enter Try.func21, Try.ntmps21
    go_wp2_with fail
    refine HCK.out.mono ?_
    rintro e w1 ⟨rfl, hb1⟩
    have hzb := (hb1.block _ HB.out.2.2.lt).trans HB.out.2.2
    have hzb : Box w1 (w.heap.size + 1) 26 #[.int .i64 0, .bool false, .int .i64 0, .string ⟨#[]⟩, .slice none 0 0, .slice none 0 0] := hzb
    have hb01 := HB.out.1.trans (hb1.mono HB.out.1.size)
    obtain ⟨k0, k1, k2, k3, k4, k5⟩ := box_ends (c0 := .int .i64 0) (c1 := .bool false) (c2 := .int .i64 0) (c3 := .string ⟨#[]⟩) (c4 := .slice none 0 0) (c5 := .slice none 0 0) hzb
    simp only [sets, Nat.zero_add, Nat.reduceAdd] at k0 k1 k2 k3 k4 k5
    have HF : Hid (ResP (.error cc) (fun _ => False) w (.returned (.tuple #[.agg #[.int .i64 0, .bool false, .int .i64 0, .string ⟨#[]⟩, .slice none 0 0, .slice none 0 0], .int .i64 cc])) (sets w1 (w.heap.size + 1) 0 [.int .i64 0, .bool false, .int .i64 0, .string ⟨#[]⟩, .slice none 0 0, .slice none 0 0])) := Lib.hid ⟨below_ends hb01 (by omega) _, HC0.out, rfl⟩
    obtain ⟨⟨z0, z1, z2, z3, z4, z5⟩, s0, s1, s2, s3, s4, s5⟩ := hzb.six
    have hzl := hzb.lt
    clear hb1 hzb hb01 HB HCK
    go_wp2
    refine bodyPost_ret (v := .tuple #[.agg #[.int .i64 0, .bool false, .int .i64 0, .string ⟨#[]⟩, .slice none 0 0, .slice none 0 0], .int .i64 cc]) (by simp [results, Try.results21, go_sem, k0, k1, k2, k3, k4, k5]) rfl HF.out

end Go.Proofs.Ytcocljgafhpdaaa
end

section
namespace Go.Proofs.Ytcocljgafhpdaaa

theorem rightF_mk {f : List Fd} {d : Int} (hr : RiseP f) (h : ∀ p ∈ f, p.2.right d = true) : rightF none f d = true :=
  rightF_iff.2 fun i hi => ⟨h _ (List.getElem_mem hi), by
    by_cases h0 : 0 < i
    · rw [dif_pos h0]
      exact decide_eq_true (List.pairwise_iff_getElem.1 hr (i - 1) i (by omega) hi (by omega))
    · rw [dif_neg h0]; rfl⟩

theorem right_intV (m : Int) : (intV m).right 32 = true := by rfl
theorem right_intV31 (m : Int) : (intV m).right (32 - 1) = true := by rfl

/-- what the law's Right makes of a value of few parts is right -/
theorem rv_right : ∀ (N : Nat) (v : V) (d r : Int), v.dep ≤ N → v.few d = true → 7 - d ≤ r → v.rv.right r = true
  | 0, v, d, r, hd, _, _ => by
    cases v
    rw [V.dep] at hd
    omega
  | N + 1, .mk k y n t l f, d, r, hd, h, hr => by
    have hdl : ∀ x ∈ l, x.dep ≤ N := fun x hx => by have := dep_list (v := .mk k y n t l f) hx; omega
    have hdf : ∀ p ∈ f, p.2.dep ≤ N := fun p hp => by have := dep_fields (v := .mk k y n t l f) hp; omega
    obtain ⟨h1, h2, h3, h4, h5, h6⟩ := few_parts h
    have hL : rightL (rvL l) (r - 1) = true := by
      rw [rvL_map]
      refine rightL_iff.2 fun x hx => ?_
      obtain ⟨z, hz, rfl⟩ := List.mem_map.1 hx
      exact rv_right N z (d + 1) (r - 1) (hdl z hz) (fewL_iff.1 h5 z hz) (by omega)
    have hF : ∀ p ∈ rvF f, p.2.right (r - 1) = true := by
      rw [rvF_map]
      intro x hx
      obtain ⟨z, hz, rfl⟩ := List.mem_map.1 hx
      exact rv_right N z.2 (d + 1) (r - 1) (hdf z hz) (fewF_iff.1 h6 z hz).2 (by omega)
    have hr1 : decide (1 ≤ r) = true := decide_eq_true (by omega)
    rw [V.rv]
    unfold rvK
    split
    · rw [V.ofBool, V.right, hr1]; rfl
    · split
      · rw [V.ofInt, V.right, hr1]; rfl
      · split
        · rw [V.ofText, V.right, hr1]; rfl
        · split
          · rw [V.ofList, V.right, hr1, hL]; rfl
          · split
            · have hk := keptL_isKept (rvF f)
              rw [V.ofMap, V.right, hr1, rightF_mk hk.1 (fun p hp => hF p (keptL_mem hp))]; rfl
            · rw [V.null, V.right, hr1]; rfl

theorem at_put {f : List Fd} {n : ByteArray} {x : V} (h : RiseP f) : atF (putV f n (some x)) n = atF f n := by
  have h1 := putV_rise (n := n) (o := some x) h
  have hl : (f.take (atF f n)).length = atF f n := by rw [List.length_take]; have := atF_le f n; omega
  have hlen : (putV f n (some x)).length = atF f n + (1 + (f.length - (atF f n + if isF f n then 1 else 0))) := by
    unfold putV
    rw [List.length_append, hl, List.length_append, List.length_drop]
    rfl
  have hat : (putV f n (some x))[atF f n]'(by omega) = (n, x) := by
    unfold putV
    rw [List.getElem_append_right (by omega)]
    simp [hl]
  have h2 := atF_lt (n := n) h1 (atF f n) (by omega)
  rw [hat] at h2
  have h3 : ¬ atF f n < atF (putV f n (some x)) n := fun h => List.lt_irrefl _ (h2.2 h)
  refine Nat.le_antisymm (by omega) ?_
  cases hi : atF f n with
  | zero => exact Nat.zero_le _
  | succ i =>
    have h4 := atF_lt (n := n) h1 i (by omega)
    have h5 : (putV f n (some x))[i]'(by omega) = f[i]'(by have := atF_le f n; omega) := by
      unfold putV
      rw [List.getElem_append_left (by omega), List.getElem_take]
    rw [h5] at h4
    have h6 := (atF_lt (n := n) h i (by have := atF_le f n; omega)).2 (by omega)
    have := h4.1 h6
    omega

theorem get_put {f : List Fd} {n : ByteArray} {x : V} (h : RiseP f) : getF (putV f n (some x)) n = some x := by
  rw [isF_at (putV_rise h), at_put h]
  have hl : (f.take (atF f n)).length = atF f n := by rw [List.length_take]; have := atF_le f n; omega
  have : (putV f n (some x))[atF f n]? = some (n, x) := by
    unfold putV
    rw [List.getElem?_append_right (by omega)]
    simp [hl]
  rw [this]
  simp

theorem put_put {f : List Fd} {n : ByteArray} {x : V} {o : Option V} (h : RiseP f) : putV (putV f n (some x)) n o = putV f n o := by
  have hl : (f.take (atF f n)).length = atF f n := by rw [List.length_take]; have := atF_le f n; omega
  have hs : isF (putV f n (some x)) n = true := by unfold isF; rw [get_put h]; rfl
  have e1 : (putV f n (some x)).take (atF f n) = f.take (atF f n) := by
    unfold putV
    rw [List.take_append_of_le_length (by omega), List.take_of_length_le (by omega)]
  have e2 : (putV f n (some x)).drop (atF f n + 1) = f.drop (atF f n + if isF f n then 1 else 0) := by
    unfold putV
    rw [List.drop_append, List.drop_of_length_le (by omega), List.nil_append, hl, show atF f n + 1 - atF f n = 1 by omega]
    rfl
  rw [show putV (putV f n (some x)) n o = (putV f n (some x)).take (atF (putV f n (some x)) n) ++ ((match o with | some x => [(n, x)] | none => []) ++ (putV f n (some x)).drop (atF (putV f n (some x)) n + if isF (putV f n (some x)) n then 1 else 0)) from rfl, at_put h, hs, if_pos rfl, e1, e2]
  rfl

theorem put_none {f : List Fd} {n : ByteArray} (h : isF f n = false) : putV f n none = f := by
  unfold putV
  rw [h]
  simp

theorem setF_right {v : V} {n : ByteArray} {o : Option V} (hk : v.kind = 5) (h : v.right 32 = true) (ho : ∀ x, o = some x → x.right (32 - 1) = true) : (v.setF (putV v.fields n o)).right 32 = true := by
  have hr := right_rise h
  cases v with
  | mk k y m t l f =>
    obtain rfl : k = 5 := hk
    rw [V.right, Bool.and_eq_true, Bool.and_eq_true, Bool.and_eq_true] at h
    obtain ⟨⟨⟨h1, h2⟩, h3⟩, h4⟩ := h
    have hF : rightF none (putV f n o) (32 - 1) = true := rightF_mk (putV_rise (f := f) hr) fun p hp => by
      rcases putV_mem hp with hp | ⟨x, hx, rfl⟩
      · obtain ⟨i, hi, rfl⟩ := List.getElem_of_mem hp
        exact (rightF_iff.1 h4 i hi).1
      · exact ho x hx
    have hp : plainB (V.mk 5 y m t l (putV f n o)) = true := by
      have h2' : plainP 5 y m t l f = true := h2
      show plainP 5 y m t l (putV f n o) = true
      unfold plainP at h2' ⊢
      rw [Bool.and_eq_true] at h2' ⊢
      exact ⟨h2'.1, by simp⟩
    show (V.mk 5 y m t l (putV f n o)).right 32 = true
    rw [V.right, h1, h3, hF, hp]
    rfl

/-- a list of operations that are right is that -/
theorem check_zero {ops : List PO} (hl : ops.length ≤ 50) (h : ∀ o ∈ ops, rightO o = true) : checkV ops = 0 := by
  unfold checkV
  rw [if_neg (by omega), if_pos (List.all_eq_true.2 h)]

theorem right_set (n : ByteArray) (m : Int) : rightO ⟨1, [n], intV m⟩ = true := rfl
theorem right_setN (n : ByteArray) : rightO ⟨1, [n], V.null⟩ = true := rfl
theorem right_add (n : ByteArray) (m : Int) : rightO ⟨3, [n], intV m⟩ = true := rfl
theorem right_drop (n : ByteArray) : rightO ⟨2, [n], V.null⟩ = true := rfl

theorem app_nomap {v : V} (n : ByteArray) (hk : v.kind ≠ 5) : applyV v [⟨1, [n], V.null⟩] = .error 5 := by
  unfold applyV
  rw [check_zero (by simp) (fun o ho => by rw [show o = ⟨1, [n], V.null⟩ by simpa using ho]; exact right_setN n), if_neg (by simp), runV, alongV, if_pos hk]

theorem app_two {v : V} {n : ByteArray} {m : Int} (hk : v.kind = 5) (h : v.right 32 = true) (hm : Is64 m) :
    applyV v [⟨1, [n], intV 0⟩, ⟨3, [n], intV m⟩] = .ok (v.setF (putV v.fields n (some (intV m)))) := by
  have hr := right_rise h
  have hz : alongV ⟨1, [n], intV 0⟩ [n] v = .ok (v.setF (putV v.fields n (some (intV 0)))) := by
    rw [alongV, if_neg (by simp [hk])]
    unfold lastV
    rw [if_pos rfl]
    rfl
  have hv1 : (v.setF (putV v.fields n (some (intV 0)))).fields = putV v.fields n (some (intV 0)) := rfl
  have hg : getF (putV v.fields n (some (intV 0))) n = some (intV 0) := get_put hr
  have ha : alongV ⟨3, [n], intV m⟩ [n] (v.setF (putV v.fields n (some (intV 0)))) = .ok (v.setF (putV v.fields n (some (intV m)))) := by
    rw [alongV, if_neg (show ¬ (v.setF _).kind ≠ 5 by simp [V.setF, V.kind]; cases v; exact hk), hv1]
    have h1 : valF (putV v.fields n (some (intV 0))) n = intV 0 := by unfold valF; rw [hg]; rfl
    have h2 : isF (putV v.fields n (some (intV 0))) n = true := by unfold isF; rw [hg]; rfl
    rw [h1, h2]
    unfold lastV
    rw [if_neg (show ¬ (3 : Int) = 1 by decide), if_neg (by decide), if_neg (show ¬ (3 : Int) = 2 by decide)]
    unfold addV
    unfold Is64 at hm
    rw [if_neg (by simp [intV, V.kind, V.num]; omega)]
    show Except.ok ((v.setF (putV v.fields n (some (intV 0)))).setF (putV (putV v.fields n (some (intV 0))) n (some (intV ((intV 0).num + m))))) = _
    rw [put_put hr]
    simp [intV, V.num, V.setF, V.kind, V.yes, V.text, V.list]
  unfold applyV
  rw [check_zero (by simp) (fun o ho => by
    rcases List.mem_cons.1 ho with rfl | ho
    · exact right_set n 0
    · rw [show o = ⟨3, [n], intV m⟩ by simpa using ho]; exact right_add n m), if_neg (by simp), runV, hz]
  simp only
  rw [runV, ha]
  simp only
  rw [runV]
  simp only
  rw [if_pos (setF_right hk h (fun x hx => by injection hx with hx; rw [← hx]; exact right_intV31 m))]

theorem app_drop {v : V} {n : ByteArray} (hk : v.kind = 5) (h : v.right 32 = true) (hs : isF v.fields n = true) : applyV v [⟨2, [n], V.null⟩] = .ok (v.setF (putV v.fields n none)) := by
  have hz : alongV ⟨2, [n], V.null⟩ [n] v = .ok (v.setF (putV v.fields n none)) := by
    rw [alongV, if_neg (by simp [hk]), hs]
    unfold lastV
    rw [if_neg (show ¬ (2 : Int) = 1 by decide), if_neg (by decide), if_pos rfl]
    rfl
  unfold applyV
  rw [check_zero (by simp) (fun o ho => by rw [show o = ⟨2, [n], V.null⟩ by simpa using ho]; exact right_drop n), if_neg (by simp), runV, hz]
  simp only
  rw [runV]
  simp only
  rw [if_pos (setF_right hk h (fun x hx => by cases hx))]

/-- what set and add make, and what drop makes of that -/
theorem y_facts {u : V} (nm : ByteArray) {m : Int} {k : Nat} (hk : u.kind = 5) (hr : u.right 32 = true) (ho : u.okv k) (hm : Is64 m) :
    ∃ y z, applyV u [⟨1, [nm], intV 0⟩, ⟨3, [nm], intV m⟩] = .ok y ∧ y.kind = 5 ∧ y.okv (k + 1) ∧ valF y.fields nm = intV m ∧ isF y.fields nm = true ∧ applyV y [⟨2, [nm], V.null⟩] = .ok z ∧ (isF u.fields nm = false → z = u) := by
  have hyg : getF (u.setF (putV u.fields nm (some (intV m)))).fields nm = some (intV m) := get_put (right_rise hr)
  have hs : isF (u.setF (putV u.fields nm (some (intV m)))).fields nm = true := by unfold isF; rw [hyg]; rfl
  have hyr : (u.setF (putV u.fields nm (some (intV m)))).right 32 = true := setF_right hk hr (fun x hx => by injection hx with hx; rw [← hx]; exact right_intV31 m)
  refine ⟨u.setF (putV u.fields nm (some (intV m))), _, app_two hk hr hm, hk, setF_okv ho (fun x hx => by injection hx with hx; rw [← hx]; exact intV_okv hm _), by unfold valF; rw [hyg]; rfl, hs, app_drop hk hyr hs, fun hf => ?_⟩
  show V.mk u.kind u.yes u.num u.text u.list (putV (putV u.fields nm (some (intV m))) nm none) = u
  rw [put_put (right_rise hr), put_none hf]
  exact (V.eta u).symm

end Go.Proofs.Ytcocljgafhpdaaa
end

section
namespace Go.Proofs.Ytcocljgafhpdaaa
open Go.RowKit

theorem kept_one1 (x : FC) : keptF #[x] = [x] := by
  have h : sortF #[x] = #[x] := by
    unfold sortF Sort.insertionSort
    rw [Sort.insOuter, if_neg (by simp)]
  unfold keptF
  rw [h]
  simp [lastsTo]

/-- OfMap of one field that lies in a new block -/
theorem ofMap_one (n : ByteArray) (x : V) (a : Option Addr) (c : Nat) (a' : Option Addr) (c' : Nat) (w : World) (hx : x.Is w (.slice a x.list.length c) (.slice a' x.fields.length c')) (hsm : x.sm) (W : World) (hW : W = w.alloc (.cells #[.string n, .int .i64 x.kind, .bool x.yes, .int .i64 x.num, .string x.text, .slice a x.list.length c, .slice a' x.fields.length c'] 30)) :
    Calls Try.prog 12 #[.slice (some ⟨w.heap.size, 0, none⟩) 1 1] W fun e w' => ∃ fa fc, e = .returned (.agg #[.int .i64 5, .bool false, .int .i64 0, .string ⟨#[]⟩, .slice none 0 0, .slice fa 1 fc]) ∧ (V.ofMap [(n, x)]).At w' (fun q => W.heap.size ≤ q) (.slice none 0 0) (.slice fa 1 fc) ∧ Below W.heap.size W w' := by
  have hA : Below w.heap.size w W := by rw [hW]; exact (Below.refl _ w).alloc (Nat.le_refl _) _
  have hbx : Box W w.heap.size 30 #[.string n, .int .i64 x.kind, .bool x.yes, .int .i64 x.num, .string x.text, .slice a x.list.length c, .slice a' x.fields.length c'] := by rw [hW]; exact Box.new w _ _
  have h := ofMap_some w.heap.size 0 1 #[⟨n, x, a, c, a', c'⟩] (by simp) (by simp) W hbx.lt (fun i hi => by
    obtain rfl : i = 0 := by simp at hi; omega
    intro j u hj
    rw [Nat.zero_add, hbx.cell]
    simpa [FC.enc] using hj) (fun i hi => by
    obtain rfl : i = 0 := by simp at hi; omega
    exact V.Is.below hx hA) (fun y hy => by
    obtain rfl : y = ⟨n, x, a, c, a', c'⟩ := by simpa using hy
    exact hsm)
  rw [kept_one1] at h
  refine h.mono ?_
  rintro e w' ⟨fv, rfl, hat, hb⟩
  obtain ⟨_, fa, fc, e1, _⟩ := V.at_iff.1 hat
  have e2 : fv = .slice fa 1 fc := e1
  subst e2
  exact ⟨fa, fc, rfl, hat, hb⟩

theorem ofMap_okv1 (n : ByteArray) (x : V) (k : Nat) (hx : x.okv k) (hk : 1 ≤ k) : (V.ofMap [(n, x)]).okv k :=
  okv_iff.2 ⟨⟨Nat.zero_le _, hk, List.pairwise_singleton _ _, by show Is64 0; unfold Is64; omega⟩, (fun y hy => by cases hy), (fun p hp => by
    have e : p = (n, x) := by simpa [V.ofMap, V.fields] using hp
    rw [e]
    exact hx)⟩

theorem head_app : applyV (V.ofMap [(⟨#[110]⟩, intV 5)]) [⟨3, [⟨#[110]⟩], intV 2⟩] = .ok (V.ofMap [(⟨#[110]⟩, intV 7)]) := by
  kernel_rfl

/-- one operation in a new block, its path of one name in a block of its own -/
theorem op_at {W : World} {pb g : Nat} {k : Int} {n : ByteArray} {x : V} {a : Option Addr} {c : Nat} {a' : Option Addr} {c' : Nat} (hs : Box W pb 9 #[.string n]) (hb : Box W g 50 #[.int .i64 k, .slice (some ⟨pb, 0, none⟩) 1 1, .int .i64 x.kind, .bool x.yes, .int .i64 x.num, .string x.text, .slice a x.list.length c, .slice a' x.fields.length c']) (hx : x.Is W (.slice a x.list.length c) (.slice a' x.fields.length c')) :
    OpsAt W All (some ⟨g, 0, none⟩) [⟨k, [n], x⟩] :=
  .inr ⟨g, 0, rfl, hb.lt, fun i hi => by
    obtain rfl : i = 0 := by simp at hi; omega
    refine ⟨some ⟨pb, 0, none⟩, 1, a, c, a', c', fun j u hj => ?_, ⟨Nat.le_refl _, by unfold maxLen; omega⟩, .inr ⟨pb, 0, rfl, hs.lt, fun j hj => ?_⟩, hx⟩
    · rw [Nat.zero_mul, Nat.zero_add, hb.cell]
      simpa using hj
    · obtain rfl : j = 0 := by simp at hj; omega
      rw [hs.cell]
      rfl⟩

theorem head_k {w w5 w6 : World} {ca : Option Addr} {cc : Nat} {cb : Option Addr} {cd : Nat} (H : ∀ W, Below (w5.alloc (.cells #[.int .i64 5, .bool false, .int .i64 0, .string ⟨#[]⟩, .slice ca 0 cc, .slice cb 1 cd] 26)).drew.heap.size (w5.alloc (.cells #[.int .i64 5, .bool false, .int .i64 0, .string ⟨#[]⟩, .slice ca 0 cc, .slice cb 1 cd] 26)).drew W → Box W w5.heap.size 26 #[.int .i64 5, .bool false, .int .i64 0, .string ⟨#[]⟩, .slice ca 0 cc, .slice cb 1 cd] ∧ (V.ofMap [(⟨#[110]⟩, intV 7)]).Is W (.slice ca 0 cc) (.slice cb 1 cd) ∧ Below w.heap.size w W)
    (hb6 : Below (w5.alloc (.cells #[.int .i64 5, .bool false, .int .i64 0, .string ⟨#[]⟩, .slice ca 0 cc, .slice cb 1 cd] 26)).drew.heap.size (w5.alloc (.cells #[.int .i64 5, .bool false, .int .i64 0, .string ⟨#[]⟩, .slice ca 0 cc, .slice cb 1 cd] 26)).drew w6) :
    ∀ w7 ga gc, (V.ofMap [(⟨#[110]⟩, intV 7)]).Is w7 (.slice none 0 0) (.slice ga 1 gc) → Below (w6.alloc (.cells #[.string ⟨#[110]⟩, .int .i64 (intV 7).kind, .bool (intV 7).yes, .int .i64 (intV 7).num, .string (intV 7).text, .slice none (intV 7).list.length 0, .slice none (intV 7).fields.length 0] 30)).heap.size (w6.alloc (.cells #[.string ⟨#[110]⟩, .int .i64 (intV 7).kind, .bool (intV 7).yes, .int .i64 (intV 7).num, .string (intV 7).text, .slice none (intV 7).list.length 0, .slice none (intV 7).fields.length 0] 30)) w7 →
      Box w7 w5.heap.size 26 #[.int .i64 5, .bool false, .int .i64 0, .string ⟨#[]⟩, .slice ca 0 cc, .slice cb 1 cd] ∧ Calls Try.prog 26 #[.agg #[.int .i64 5, .bool false, .int .i64 0, .string ⟨#[]⟩, .slice ca 0 cc, .slice cb 1 cd], .agg #[.int .i64 5, .bool false, .int .i64 0, .string ⟨#[]⟩, .slice none 0 0, .slice ga 1 gc]] w7 (fun e w' => e = .returned (.bool true) ∧ Below w7.heap.size w7 w') ∧ ∀ w8, Below w7.heap.size w7 w8 → Below w.heap.size w w8 := fun w7 ga gc hat7 hb7 => by
  have hA6 : Below w6.heap.size w6 (w6.alloc (.cells #[.string ⟨#[110]⟩, .int .i64 (intV 7).kind, .bool (intV 7).yes, .int .i64 (intV 7).num, .string (intV 7).text, .slice none (intV 7).list.length 0, .slice none (intV 7).fields.length 0] 30)) := (Below.refl _ w6).alloc (Nat.le_refl _) _
  have hb67 : Below w6.heap.size w6 w7 := hA6.trans (hb7.mono hA6.size)
  obtain ⟨h1, h2, h3⟩ := H w7 (hb6.trans (hb67.mono hb6.size))
  have hs := same_any (V.ofMap [(⟨#[110]⟩, intV 7)]) (V.ofMap [(⟨#[110]⟩, intV 7)]) _ _ _ _ w7 h2 hat7
  rw [cmp_self] at hs
  exact ⟨h1, hs, fun w8 hb8 => h3.trans (hb8.mono h3.size)⟩

set_option maxHeartbeats 4000000 in
set_option maxRecDepth 100000 in
theorem head8_any (w : World) : Calls Try.prog 17 #[] w fun e w' => e = .returned (.bool true) ∧ Below w.heap.size w w' := by
  go_enter Try.func17, Try.ntmps17
  go_wp2_with fail
  refine (ofInt_any 5 _).mono ?_
  rintro e w1 ⟨rfl, hb1⟩
  have HB1 := Lib.hid hb1
  clear hb1
  go_wp2_with fail
  refine (ofMap_one ⟨#[110]⟩ (intV 5) none 0 none 0 w1 (intV_is 5 w1 All) ((intV_okv (n := 5) (by unfold Is64; omega) 1).sm (by omega)) _ rfl).mono ?_
  rintro e w2 ⟨fa, fc, rfl, hat2, hb2⟩
  have HB2 := Lib.hid (HB1.out.trans ((((Below.refl _ w1).alloc (Nat.le_refl _) _).trans (hb2.mono (by simp))).mono HB1.out.size))
  have HA2 := Lib.hid hat2.is
  clear hb2 hat2
  go_wp2_with fail
  refine (ofInt_any 2 _).mono ?_
  rintro e w3 ⟨rfl, hb3⟩
  have hs3 : Below w2.heap.size w2 (w2.alloc (.cells #[.string ⟨#[110]⟩] 9)) := (Below.refl _ w2).alloc (Nat.le_refl _) _
  have hbs : Box w3 w2.heap.size 9 #[.string ⟨#[110]⟩] := (hb3.block _ (by simp)).trans (Box.new w2 _ _)
  have hb23 : Below w2.heap.size w2 w3 := hs3.trans (hb3.mono hs3.size)
  have hA4 : Below w3.heap.size w3 (w3.alloc (.cells #[.int .i64 3, .slice (some ⟨w2.heap.size, 0, none⟩) 1 1, .int .i64 2, .bool false, .int .i64 2, .string ⟨#[]⟩, .slice none 0 0, .slice none 0 0] 50)) := (Below.refl _ w3).alloc (Nat.le_refl _) _
  have hops : OpsAt (w3.alloc (.cells #[.int .i64 3, .slice (some ⟨w2.heap.size, 0, none⟩) 1 1, .int .i64 2, .bool false, .int .i64 2, .string ⟨#[]⟩, .slice none 0 0, .slice none 0 0] 50)) All (some ⟨w3.heap.size, 0, none⟩) [⟨3, [⟨#[110]⟩], intV 2⟩] := op_at (hbs.alloc _) (Box.new w3 _ _) (intV_is 2 _ All)
  have hcall := apply_any (V.ofMap [(⟨#[110]⟩, intV 5)]) [⟨3, [⟨#[110]⟩], intV 2⟩] none 0 fa fc (some ⟨w3.heap.size, 0, none⟩) 1 1 (w3.alloc (.cells #[.int .i64 3, .slice (some ⟨w2.heap.size, 0, none⟩) 1 1, .int .i64 2, .bool false, .int .i64 2, .string ⟨#[]⟩, .slice none 0 0, .slice none 0 0] 50)) ((HA2.out.below hb23).below hA4) hops (by simp) (ofMap_okv1 _ _ 1 (intV_okv (by unfold Is64; omega) 1) (Nat.le_refl _)) (by omega) (fun o ho _ => by
    have e : o = ⟨3, [⟨#[110]⟩], intV 2⟩ := by simpa using ho
    rw [e]
    exact intV_okv (by unfold Is64; omega) 1)
  rw [head_app] at hcall
  have HC := Lib.hid hcall
  have HB4 := Lib.hid (HB2.out.trans ((hb23.trans (hA4.mono hb23.size)).mono HB2.out.size))
  clear hb3 hs3 hbs hb23 hA4 hops hcall HA2 HB1 HB2
  go_wp2_with fail
  refine HC.out.mono ?_
  rintro e w5 ⟨hb5, ca, cc, cb, cd, rfl, hat5⟩
  have hA5 : Below w5.heap.size w5 (w5.alloc (.cells #[.int .i64 5, .bool false, .int .i64 0, .string ⟨#[]⟩, .slice ca 0 cc, .slice cb 1 cd] 26)).drew := ((Below.refl _ w5).alloc (Nat.le_refl _) _).drew
  have HBX : Hid (∀ W, Below (w5.alloc (.cells #[.int .i64 5, .bool false, .int .i64 0, .string ⟨#[]⟩, .slice ca 0 cc, .slice cb 1 cd] 26)).drew.heap.size (w5.alloc (.cells #[.int .i64 5, .bool false, .int .i64 0, .string ⟨#[]⟩, .slice ca 0 cc, .slice cb 1 cd] 26)).drew W → Box W w5.heap.size 26 #[.int .i64 5, .bool false, .int .i64 0, .string ⟨#[]⟩, .slice ca 0 cc, .slice cb 1 cd] ∧ (V.ofMap [(⟨#[110]⟩, intV 7)]).Is W (.slice ca 0 cc) (.slice cb 1 cd) ∧ Below w.heap.size w W) := Lib.hid fun W hW =>
    ⟨(hW.block _ (show w5.heap.size < (w5.alloc (.cells #[.int .i64 5, .bool false, .int .i64 0, .string ⟨#[]⟩, .slice ca 0 cc, .slice cb 1 cd] 26)).heap.size by simp)).trans (Box.new w5 _ _), V.At.below (V.At.below hat5.is hA5) hW, HB4.out.trans ((hb5.trans ((hA5.trans (hW.mono hA5.size)).mono hb5.size)).mono HB4.out.size)⟩
  clear hb5 hat5 hA5 HC HB4
  go_wp2_with fail
  go_region_with (first
    | (go_at_call 26; refine HSAME.out.mono ?_; rintro e w8 ⟨rfl, hb8⟩; have HF := Lib.hid (HBW.out w8 hb8); clear hb8)
    | (go_at_call 12; refine (ofMap_one ⟨#[110]⟩ (intV 7) none 0 none 0 w6 (intV_is 7 w6 All) ((intV_okv (n := 7) (by unfold Is64; omega) 1).sm (by omega)) _ rfl).mono ?_; rintro e w7 ⟨ga, gc, rfl, hat7, hb7⟩; obtain ⟨b7, hsame, hbw7⟩ := HK6.out w7 ga gc hat7.is hb7; obtain ⟨⟨y0, y1, y2, y3, y4, y5⟩, _⟩ := b7.six; have hy := b7.lt; have HSAME := Lib.hid hsame; have HBW := Lib.hid hbw7; clear hat7 hb7 b7 hsame hbw7)
    | (go_at_call 31; refine (ofInt_any 7 _).mono ?_; rintro e w6 ⟨rfl, hb6⟩; obtain ⟨b6, _, _⟩ := HBX.out w6 hb6; obtain ⟨⟨x0, x1, x2, x3, x4, x5⟩, _⟩ := b6.six; have hx := b6.lt; have HK6 := Lib.hid (head_k HBX.out hb6); clear hb6 b6))
  all_goals
    go_wp2
    go_ret
    exact ⟨rfl, HF.out⟩

end Go.Proofs.Ytcocljgafhpdaaa
end

section
namespace Go.Proofs.Ytcocljgafhpdaaa
open Go.RowKit

/-- Get of a map, of a name that is there or not -/
theorem get_g {W : World} {kf : List Fd} (kk : Int) (hkk : kk = 5) (y : Bool) (m : Int) (t : ByteArray) (ax : Option Addr) (lx cx : Nat) {ma : Option Addr} {n mc : Nat} (hfa : FAt W All kf (.slice ma n mc)) (hsm : ∀ p ∈ kf, p.2.sm) (hlen : kf.length ≤ 100000) (nm : ByteArray) :
    Calls Try.prog 14 #[.agg #[.int .i64 kk, .bool y, .int .i64 m, .string t, .slice ax lx cx, .slice ma n mc], .string nm] W fun e w' =>
      ∃ ga gc gb gd, e = .returned (.tuple #[.agg #[.int .i64 (valF kf nm).kind, .bool (valF kf nm).yes, .int .i64 (valF kf nm).num, .string (valF kf nm).text, .slice ga (valF kf nm).list.length gc, .slice gb (valF kf nm).fields.length gd], .bool (isF kf nm)]) ∧ (valF kf nm).Is w' (.slice ga (valF kf nm).list.length gc) (.slice gb (valF kf nm).fields.length gd) ∧ Below W.heap.size W w' := by
  subst hkk
  refine (get_map y m t ax lx cx kf nm (.slice ma n mc) W hsm hlen hfa).mono ?_
  rintro e w' ⟨hb, h⟩
  rcases h with ⟨x, lv, fv, hg, rfl, hat⟩ | ⟨hg, rfl⟩
  · obtain ⟨⟨ga, gc, rfl⟩, ⟨gb, gd, rfl⟩, _, _⟩ := hat.is.len
    have e1 : valF kf nm = x := by unfold valF; rw [hg]; rfl
    rw [e1]
    exact ⟨ga, gc, gb, gd, by unfold isF; rw [hg]; rfl, hat.is, hb⟩
  · have e1 : valF kf nm = V.null := by unfold valF; rw [hg]; rfl
    rw [e1]
    exact ⟨none, 0, none, 0, by unfold isF; rw [hg]; rfl, none_at _ _ V.null rfl rfl, hb⟩

theorem null_okv (k : Nat) : V.null.okv k := okv_iff.2 ⟨⟨Nat.zero_le _, Nat.zero_le _, List.Pairwise.nil, by show Is64 0; unfold Is64; omega⟩, (fun _ h => by cases h), (fun _ h => by cases h)⟩

/-- one operation with a path of one name, as it lies -/
theorem opAt_one {W : World} {g off pb : Nat} {k : Int} {n : ByteArray} {x : V} {a : Option Addr} {c : Nat} {a' : Option Addr} {c' : Nat} (hs : Box W pb 9 #[.string n]) (hin : InAt W g off [.int .i64 k, .slice (some ⟨pb, 0, none⟩) 1 1, .int .i64 x.kind, .bool x.yes, .int .i64 x.num, .string x.text, .slice a x.list.length c, .slice a' x.fields.length c']) (hx : x.Is W (.slice a x.list.length c) (.slice a' x.fields.length c')) :
    OpAt W All g off ⟨k, [n], x⟩ :=
  ⟨some ⟨pb, 0, none⟩, 1, a, c, a', c', hin, ⟨Nat.le_refl _, by unfold maxLen; omega⟩, .inr ⟨pb, 0, rfl, hs.lt, fun j hj => by
    obtain rfl : j = 0 := by simp at hj; omega
    rw [hs.cell]
    rfl⟩, hx⟩

theorem two_ops {W : World} {g pb : Nat} {k1 k2 a b : Int} {n : ByteArray} (hs : Box W pb 9 #[.string n]) (hb : Box W g 50 #[.int .i64 k1, .slice (some ⟨pb, 0, none⟩) 1 1, .int .i64 2, .bool false, .int .i64 a, .string ⟨#[]⟩, .slice none 0 0, .slice none 0 0, .int .i64 k2, .slice (some ⟨pb, 0, none⟩) 1 1, .int .i64 2, .bool false, .int .i64 b, .string ⟨#[]⟩, .slice none 0 0, .slice none 0 0]) :
    OpsAt W All (some ⟨g, 0, none⟩) [⟨k1, [n], intV a⟩, ⟨k2, [n], intV b⟩] :=
  .inr ⟨g, 0, rfl, hb.lt, fun i hi => by
    match i, hi with
    | 0, _ =>
      refine opAt_one hs (fun j u hj => ?_) (intV_is a W All)
      have hj8 : j < 8 := (List.getElem?_eq_some_iff.1 hj).1
      rw [Nat.zero_mul, Nat.zero_add, hb.cell, ← hj]
      match j, hj8 with
      | 0, _ | 1, _ | 2, _ | 3, _ | 4, _ | 5, _ | 6, _ | 7, _ => rfl
    | 1, _ =>
      refine opAt_one hs (fun j u hj => ?_) (intV_is b W All)
      have hj8 : j < 8 := (List.getElem?_eq_some_iff.1 hj).1
      rw [hb.cell, ← hj]
      match j, hj8 with
      | 0, _ | 1, _ | 2, _ | 3, _ | 4, _ | 5, _ | 6, _ | 7, _ => rfl⟩

end Go.Proofs.Ytcocljgafhpdaaa
namespace Go.Proofs.Ytcocljgafhpdaaa.patchTwice
open Go.RowKit

/-- v's box, and the path's -/
def ST (w : World) (u : V) (ua : Option Addr) (uc : Nat) (ub : Option Addr) (ud : Nat) (pb : Nat) (nm : ByteArray) (W : World) : Prop :=
  Below w.heap.size w W ∧ Box W w.heap.size 26 #[.int .i64 u.kind, .bool u.yes, .int .i64 u.num, .string u.text, .slice ua u.list.length uc, .slice ub u.fields.length ud] ∧ u.Is W (.slice ua u.list.length uc) (.slice ub u.fields.length ud) ∧ Box W pb 9 #[.string nm]

theorem ST.below {w W W' : World} {u : V} {ua : Option Addr} {uc : Nat} {ub : Option Addr} {ud pb : Nat} {nm : ByteArray} (h : ST w u ua uc ub ud pb nm W) (hb : Below W.heap.size W W') : ST w u ua uc ub ud pb nm W' :=
  ⟨h.1.trans (hb.mono h.1.size), (hb.block _ h.2.1.lt).trans h.2.1, h.2.2.1.below hb, (hb.block _ h.2.2.2.lt).trans h.2.2.2⟩

theorem ST.al {w W : World} {u : V} {ua : Option Addr} {uc : Nat} {ub : Option Addr} {ud pb : Nat} {nm : ByteArray} (h : ST w u ua uc ub ud pb nm W) (o : Obj) : ST w u ua uc ub ud pb nm (W.alloc o) := h.below ((Below.refl _ W).alloc (Nat.le_refl _) o)

theorem two_call {w W : World} {u y : V} {ua : Option Addr} {uc : Nat} {ub : Option Addr} {ud pb : Nat} {nm : ByteArray} {m : Int} {g : Nat} (h : ST w u ua uc ub ud pb nm W) (ho : u.okv 8) (hm : Is64 m) (hy : applyV u [⟨1, [nm], intV 0⟩, ⟨3, [nm], intV m⟩] = .ok y) (hg : Box W g 50 #[.int .i64 1, .slice (some ⟨pb, 0, none⟩) 1 1, .int .i64 2, .bool false, .int .i64 0, .string ⟨#[]⟩, .slice none 0 0, .slice none 0 0, .int .i64 3, .slice (some ⟨pb, 0, none⟩) 1 1, .int .i64 2, .bool false, .int .i64 m, .string ⟨#[]⟩, .slice none 0 0, .slice none 0 0]) :
    Calls Try.prog 21 #[.agg #[.int .i64 u.kind, .bool u.yes, .int .i64 u.num, .string u.text, .slice ua u.list.length uc, .slice ub u.fields.length ud], .slice (some ⟨g, 0, none⟩) 2 2] W fun e w' =>
      ∃ ya yc yb yd, e = .returned (.tuple #[.agg #[.int .i64 y.kind, .bool y.yes, .int .i64 y.num, .string y.text, .slice ya y.list.length yc, .slice yb y.fields.length yd], .int .i64 0]) ∧ y.At w' (fun q => W.heap.size ≤ q) (.slice ya y.list.length yc) (.slice yb y.fields.length yd) ∧ Below W.heap.size W w' := by
  have hcall := apply_any u [⟨1, [nm], intV 0⟩, ⟨3, [nm], intV m⟩] ua uc ub ud (some ⟨g, 0, none⟩) 2 8 _ h.2.2.1 (two_ops h.2.2.2 hg) (by simp) ho (by omega) (fun o hoo _ => by
    rcases List.mem_cons.1 hoo with rfl | hoo
    · exact intV_okv (by unfold Is64; omega) _
    · rw [show o = ⟨3, [nm], intV m⟩ by simpa using hoo]; exact intV_okv hm _)
  rw [hy] at hcall
  refine hcall.mono ?_
  rintro e w' ⟨hb, ya, yc, yb, yd, rfl, hat⟩
  exact ⟨ya, yc, yb, yd, rfl, hat.wider (fun q hq => hq.resolve_left id), hb⟩

theorem box2 (w : World) (o : Obj) (t : TypeId) (cs : Array Value) : Box ((w.alloc o).alloc (.cells cs t)) (w.heap.size + 1) t cs := by
  have h1 := Box.new (w.alloc o) t cs
  rw [show (w.alloc o).heap.size = w.heap.size + 1 by simp] at h1
  exact h1

theorem zbox (w7 : World) (o : Obj) : Box ((w7.alloc o).alloc (.cells #[.int .i64 0, .bool false, .int .i64 0, .string ⟨#[]⟩, .slice none 0 0, .slice none 0 0] 26)) (w7.heap.size + 1) 26 #[.int .i64 0, .bool false, .int .i64 0, .string ⟨#[]⟩, .slice none 0 0, .slice none 0 0] := by
  have h1 := Box.new (w7.alloc o) 26 #[.int .i64 0, .bool false, .int .i64 0, .string ⟨#[]⟩, .slice none 0 0, .slice none 0 0]
  rw [show (w7.alloc o).heap.size = w7.heap.size + 1 by simp] at h1
  exact h1

theorem yb_new {w W w8 : World} {u y : V} {ua : Option Addr} {uc : Nat} {ub : Option Addr} {ud pb : Nat} {nm : ByteArray} {ya : Option Addr} {yc : Nat} {yb : Option Addr} {yd : Nat} (hst : ST w u ua uc ub ud pb nm W) (hb : Below W.heap.size W w8) (hy : y.Is w8 (.slice ya y.list.length yc) (.slice yb y.fields.length yd)) :
    Box (w8.alloc (.cells #[.int .i64 y.kind, .bool y.yes, .int .i64 y.num, .string y.text, .slice ya y.list.length yc, .slice yb y.fields.length yd] 26)) w8.heap.size 26 #[.int .i64 y.kind, .bool y.yes, .int .i64 y.num, .string y.text, .slice ya y.list.length yc, .slice yb y.fields.length yd] ∧ y.Is (w8.alloc (.cells #[.int .i64 y.kind, .bool y.yes, .int .i64 y.num, .string y.text, .slice ya y.list.length yc, .slice yb y.fields.length yd] 26)) (.slice ya y.list.length yc) (.slice yb y.fields.length yd) ∧ ST w u ua uc ub ud pb nm (w8.alloc (.cells #[.int .i64 y.kind, .bool y.yes, .int .i64 y.num, .string y.text, .slice ya y.list.length yc, .slice yb y.fields.length yd] 26)) := by
  have hA : Below w8.heap.size w8 (w8.alloc (.cells #[.int .i64 y.kind, .bool y.yes, .int .i64 y.num, .string y.text, .slice ya y.list.length yc, .slice yb y.fields.length yd] 26)) := (Below.refl _ w8).alloc (Nat.le_refl _) _
  exact ⟨Box.new w8 _ _, hy.below hA, (hst.below hb).below hA⟩

theorem yb_set {w W W7 w8 : World} {u y : V} {ua : Option Addr} {uc : Nat} {ub : Option Addr} {ud pb bx : Nat} {nm : ByteArray} {ya : Option Addr} {yc : Nat} {yb : Option Addr} {yd : Nat} (hst : ST w u ua uc ub ud pb nm W) (hb : Below W.heap.size W w8) (hbx : W.heap.size ≤ bx) (hz : Box w8 bx 26 #[.int .i64 0, .bool false, .int .i64 0, .string ⟨#[]⟩, .slice none 0 0, .slice none 0 0]) (hlt : bx < W7.heap.size) (hy : y.At w8 (fun q => W7.heap.size ≤ q) (.slice ya y.list.length yc) (.slice yb y.fields.length yd)) :
    Box (sets w8 bx 0 [.int .i64 y.kind, .bool y.yes, .int .i64 y.num, .string y.text, .slice ya y.list.length yc, .slice yb y.fields.length yd]) bx 26 #[.int .i64 y.kind, .bool y.yes, .int .i64 y.num, .string y.text, .slice ya y.list.length yc, .slice yb y.fields.length yd] ∧ y.Is (sets w8 bx 0 [.int .i64 y.kind, .bool y.yes, .int .i64 y.num, .string y.text, .slice ya y.list.length yc, .slice yb y.fields.length yd]) (.slice ya y.list.length yc) (.slice yb y.fields.length yd) ∧ ST w u ua uc ub ud pb nm (sets w8 bx 0 [.int .i64 y.kind, .bool y.yes, .int .i64 y.num, .string y.text, .slice ya y.list.length yc, .slice yb y.fields.length yd]) :=
  ⟨box_sets6 hz _ _ _ _ _ _, at_ends hy (fun q hq => ⟨by omega, trivial⟩) _, hst.below (Below.sets _ 0 hb hbx)⟩

/-- what is left behind both operations: y in a box that was there before -/
def YB (w : World) (u y : V) (ua : Option Addr) (uc : Nat) (ub : Option Addr) (ud pb : Nat) (nm : ByteArray) (bx : Nat) (ya : Option Addr) (yc : Nat) (yb : Option Addr) (yd : Nat) (W : World) : Prop :=
  Box W bx 26 #[.int .i64 y.kind, .bool y.yes, .int .i64 y.num, .string y.text, .slice ya y.list.length yc, .slice yb y.fields.length yd] ∧ y.Is W (.slice ya y.list.length yc) (.slice yb y.fields.length yd) ∧ ST w u ua uc ub ud pb nm W

end Go.Proofs.Ytcocljgafhpdaaa.patchTwice
namespace Go.Proofs.Ytcocljgafhpdaaa.patchTwice
open Go.RowKit

set_option maxHeartbeats 8000000 in
set_option maxRecDepth 100000 in
theorem walk {w : World} (v : V) (lv fv : Value) (hx : v.Is w lv fv) (hn : v.n64) (nm : ByteArray) (_wn : nm.size ≤ maxLen) (m : Int) (wm : (Lit.int .i64 m).wf = true) :
    Calls Try.prog 6 #[.agg #[.int .i64 v.kind, .bool v.yes, .int .i64 v.num, .string v.text, lv, fv], .string nm, .int .i64 m] w fun e w' => e = .returned (.bool true) ∧ Below w.heap.size w w' := by
  obtain ⟨⟨la, lc, rfl⟩, ⟨lb, ld, rfl⟩, _, _⟩ := hx.len
  have hA : Below w.heap.size w (w.alloc (.cells #[.int .i64 v.kind, .bool v.yes, .int .i64 v.num, .string v.text, .slice la v.list.length lc, .slice lb v.fields.length ld] 26)) := (Below.refl _ w).alloc (Nat.le_refl _) _
  have hbx := Box.new w 26 #[.int .i64 v.kind, .bool v.yes, .int .i64 v.num, .string v.text, .slice la v.list.length lc, .slice lb v.fields.length ld]
  have h64 : Is64 m := wf_is64 wm
  have H0 := Lib.hid (And.intro hA (And.intro hbx (And.intro (V.Is.below hx hA) (And.intro hn h64))))
  clear hA hbx hx hn h64 wm
  go_enter Try.func6, Try.ntmps6
  go_wp2_with fail
  refine (head8_any _).mono ?_
  rintro e w1 ⟨rfl, hb1⟩
  have hb01 := H0.out.1.trans (hb1.mono H0.out.1.size)
  have hv1 := H0.out.2.2.1.below hb1
  have hbx1 : Box w1 w.heap.size 26 #[.int .i64 v.kind, .bool v.yes, .int .i64 v.num, .string v.text, .slice la v.list.length lc, .slice lb v.fields.length ld] := (hb1.block _ H0.out.2.1.lt).trans H0.out.2.1
  have hfew := few_any v _ _ w1 hv1
  obtain ⟨fw, hfw⟩ : ∃ fw, fw = v.few 0 := ⟨_, rfl⟩
  rw [← hfw] at hfew
  have H1 := Lib.hid (And.intro hb01 (And.intro hv1 (And.intro hbx1 hfw)))
  have HFEW := Lib.hid hfew
  obtain ⟨⟨v0, v1, v2, v3, v4, v5⟩, _⟩ := hbx1.six
  clear hb1 hb01 hv1 hbx1 hfew hfw
  go_wp2_with fail
  refine HFEW.out.mono ?_
  rintro e w2 ⟨rfl, hb2⟩
  cases fw with
  | false =>
    have HF := Lib.hid (H1.out.1.trans (hb2.mono H1.out.1.size))
    clear hb2 v0 v1 v2 v3 v4 v5
    go_wp2
    go_ret
    exact ⟨rfl, HF.out⟩
  | true =>
    have hb02 := H1.out.1.trans (hb2.mono H1.out.1.size)
    by_cases h40 : 40 < nm.size
    · have g1 : (40 : Int) < (nm.size : Int) := by omega
      have HF := Lib.hid hb02
      clear hb2 hb02 h40 v0 v1 v2 v3 v4 v5
      go_wp2
      go_ret
      exact ⟨rfl, HF.out⟩
    · have g1 : ¬ (40 : Int) < (nm.size : Int) := by omega
      have hbx2 : Box w2 w.heap.size 26 #[.int .i64 v.kind, .bool v.yes, .int .i64 v.num, .string v.text, .slice la v.list.length lc, .slice lb v.fields.length ld] := (hb2.block _ H1.out.2.2.1.lt).trans H1.out.2.2.1
      have hr := lright_any v 0 H1.out.2.2.2.symm _ _ w2 (H1.out.2.1.below hb2)
      obtain ⟨u, hu⟩ : ∃ u, u = v.rv := ⟨_, rfl⟩
      rw [← hu] at hr
      have hur : u.right 32 = true := by rw [hu]; exact rv_right v.dep v 0 32 (Nat.le_refl _) H1.out.2.2.2.symm (by omega)
      have huo : u.okv 8 := okv_few u.dep u 0 32 (Nat.le_refl _) (by rw [hu]; exact rv_few v.dep v 0 (Nat.le_refl _) H1.out.2.2.2.symm) hur (by rw [hu]; exact rv_n64 v.dep v (Nat.le_refl _) H0.out.2.2.2.1)
      have HU := Lib.hid (And.intro hur (And.intro huo H0.out.2.2.2.2))
      have HR := Lib.hid hr
      have H2 := Lib.hid (And.intro hb02 hbx2)
      clear v0 v1 v2 v3 v4 v5
      obtain ⟨⟨v0, v1, v2, v3, v4, v5⟩, _⟩ := hbx2.six
      have hvl := hbx2.lt
      clear hb2 hb02 hbx2 hr hur huo hu h40 H0 H1 HFEW
      go_wp2_with fail
      refine HR.out.mono ?_
      rintro e w3 ⟨lv', fv', rfl, hat, hb3⟩
      obtain ⟨⟨ua, uc, rfl⟩, ⟨ub, ud, rfl⟩, _, _⟩ := hat.is.len
      have hb03 := H2.out.1.trans (hb3.mono H2.out.1.size)
      have hbx3 : Box w3 w.heap.size 26 #[.int .i64 v.kind, .bool v.yes, .int .i64 v.num, .string v.text, .slice la v.list.length lc, .slice lb v.fields.length ld] := (hb3.block _ H2.out.2.lt).trans H2.out.2
      have hw2 : w.heap.size < w2.heap.size := H2.out.2.lt
      obtain ⟨k0, k1, k2, k3, k4, k5⟩ := box_ends (c0 := .int .i64 u.kind) (c1 := .bool u.yes) (c2 := .int .i64 u.num) (c3 := .string u.text) (c4 := .slice ua u.list.length uc) (c5 := .slice ub u.fields.length ud) hbx3
      simp only [sets, Nat.zero_add, Nat.reduceAdd] at k0 k1 k2 k3 k4 k5
      have hbx4 := box_sets6 hbx3 (.int .i64 u.kind) (.bool u.yes) (.int .i64 u.num) (.string u.text) (.slice ua u.list.length uc) (.slice ub u.fields.length ud)
      have hb04 : Below w.heap.size w (sets w3 w.heap.size 0 [.int .i64 u.kind, .bool u.yes, .int .i64 u.num, .string u.text, .slice ua u.list.length uc, .slice ub u.fields.length ud]) := below_ends hb03 (Nat.le_refl _) _
      have hu4 : u.Is (sets w3 w.heap.size 0 [.int .i64 u.kind, .bool u.yes, .int .i64 u.num, .string u.text, .slice ua u.list.length uc, .slice ub u.fields.length ud]) (.slice ua u.list.length uc) (.slice ub u.fields.length ud) := at_ends hat (fun q hq => ⟨by omega, trivial⟩) _
      have H3 := Lib.hid (And.intro hb04 (And.intro hbx4 hu4))
      clear v0 v1 v2 v3 v4 v5
      obtain ⟨⟨v0, v1, v2, v3, v4, v5⟩, s0, s1, s2, s3, s4, s5⟩ := hbx3.six
      clear hvl
      have hvl := hbx3.lt
      clear hat hb3 hb03 hbx3 hw2 hbx4 hb04 hu4 HR H2
      by_cases hk : u.kind = 5
      · have g2 : (u.kind != 5) = false := by simp [hk]
        have HK := Lib.hid hk
        obtain ⟨t, ht⟩ : ∃ t, t = isF u.fields nm := ⟨_, rfl⟩
        obtain ⟨g, hg⟩ : ∃ g, g = valF u.fields nm := ⟨_, rfl⟩
        have hget := get_g u.kind hk u.yes u.num u.text ua u.list.length uc (V.at_iff.1 H3.out.2.2).2 (fun p hp => ((okv_iff.1 HU.out.2.1).2.2 p hp).sm (by omega)) (by have := (okv_iff.1 HU.out.2.1).1.2.1; omega) nm
        rw [← ht, ← hg] at hget
        have HGET := Lib.hid hget
        have HT := Lib.hid ht
        clear hk hget hg ht
        go_wp2_with fail
        refine HGET.out.mono ?_
        rintro e w5 ⟨ga, gc, gb, gd, rfl, _, hb5⟩
        have hS : Below w5.heap.size w5 ((w5.alloc (.cells #[.int .i64 g.kind, .bool g.yes, .int .i64 g.num, .string g.text, .slice ga g.list.length gc, .slice gb g.fields.length gd] 26)).alloc (.cells #[.string nm] 9)) := ((Below.refl _ w5).alloc (Nat.le_refl _) _).alloc (by simp) _
        have hST : ST w u ua uc ub ud (w5.heap.size + 1) nm ((w5.alloc (.cells #[.int .i64 g.kind, .bool g.yes, .int .i64 g.num, .string g.text, .slice ga g.list.length gc, .slice gb g.fields.length gd] 26)).alloc (.cells #[.string nm] 9)).drew := by
          have h1 := Box.new (w5.alloc (.cells #[.int .i64 g.kind, .bool g.yes, .int .i64 g.num, .string g.text, .slice ga g.list.length gc, .slice gb g.fields.length gd] 26)) 9 #[.string nm]
          rw [show (w5.alloc (.cells #[.int .i64 g.kind, .bool g.yes, .int .i64 g.num, .string g.text, .slice ga g.list.length gc, .slice gb g.fields.length gd] 26)).heap.size = w5.heap.size + 1 by simp] at h1
          have h2 := hb5.trans ((hS.drew).mono hb5.size)
          exact ⟨H3.out.1.trans (h2.mono H3.out.1.size), (h2.block _ H3.out.2.1.lt).trans H3.out.2.1, H3.out.2.2.below h2, h1⟩
        obtain ⟨y, z, happ, hyk, hyo, hyv, hyi, hdr, hzu⟩ := y_facts nm HK.out HU.out.1 HU.out.2.1 HU.out.2.2
        rw [← HT.out] at hzu
        have HST := Lib.hid hST
        have HY := Lib.hid (And.intro happ (And.intro hyk (And.intro hyo (And.intro hyv (And.intro hyi (And.intro hdr hzu))))))
        obtain ⟨⟨q0, q1, q2, q3, q4, q5⟩, _⟩ := hST.2.1.six
        have hql := hST.2.1.lt
        clear hST happ hyk hyo hyv hyi hdr hzu hS hb5 k0 k1 k2 k3 k4 k5 v0 v1 v2 v3 v4 v5 s0 s1 s2 s3 s4 s5 hvl HGET H3
        go_upto_region 11 with (fail)
        go_cut [12, 13] (fun p c wx => ∃ bx ya yc yb yd, p = .pointer (some ⟨bx, 0, none⟩) ∧ c = .int .i64 0 ∧ Hid (Box wx bx 26 #[.int .i64 y.kind, .bool y.yes, .int .i64 y.num, .string y.text, .slice ya y.list.length yc, .slice yb y.fields.length yd] ∧ y.Is wx (.slice ya y.list.length yc) (.slice yb y.fields.length yd) ∧ ST w u ua uc ub ud (w5.heap.size + 1) nm wx))
        case first =>
          have HW0 : Hid (((w5.alloc (.cells #[.int .i64 g.kind, .bool g.yes, .int .i64 g.num, .string g.text, .slice ga g.list.length gc, .slice gb g.fields.length gd] 26)).alloc (.cells #[.string nm] 9)).drew.heap.size = w5.heap.size + 1 + 1) := Lib.hid (by show ((w5.alloc (.cells #[.int .i64 g.kind, .bool g.yes, .int .i64 g.num, .string g.text, .slice ga g.list.length gc, .slice gb g.fields.length gd] 26)).alloc (.cells #[.string nm] 9)).heap.size = _; simp)
          have hS5 : ((w5.alloc (.cells #[.int .i64 g.kind, .bool g.yes, .int .i64 g.num, .string g.text, .slice ga g.list.length gc, .slice gb g.fields.length gd] 26)).alloc (.cells #[.string nm] 9)).drew.cell? ⟨w.heap.size, 0, none⟩ = some (.int .i64 u.kind) ∧ ((w5.alloc (.cells #[.int .i64 g.kind, .bool g.yes, .int .i64 g.num, .string g.text, .slice ga g.list.length gc, .slice gb g.fields.length gd] 26)).alloc (.cells #[.string nm] 9)).drew.cell? ⟨w.heap.size, 1, none⟩ = some (.bool u.yes) ∧ ((w5.alloc (.cells #[.int .i64 g.kind, .bool g.yes, .int .i64 g.num, .string g.text, .slice ga g.list.length gc, .slice gb g.fields.length gd] 26)).alloc (.cells #[.string nm] 9)).drew.cell? ⟨w.heap.size, 2, none⟩ = some (.int .i64 u.num) ∧ ((w5.alloc (.cells #[.int .i64 g.kind, .bool g.yes, .int .i64 g.num, .string g.text, .slice ga g.list.length gc, .slice gb g.fields.length gd] 26)).alloc (.cells #[.string nm] 9)).drew.cell? ⟨w.heap.size, 3, none⟩ = some (.string u.text) ∧ ((w5.alloc (.cells #[.int .i64 g.kind, .bool g.yes, .int .i64 g.num, .string g.text, .slice ga g.list.length gc, .slice gb g.fields.length gd] 26)).alloc (.cells #[.string nm] 9)).drew.cell? ⟨w.heap.size, 4, none⟩ = some (.slice ua u.list.length uc) ∧ ((w5.alloc (.cells #[.int .i64 g.kind, .bool g.yes, .int .i64 g.num, .string g.text, .slice ga g.list.length gc, .slice gb g.fields.length gd] 26)).alloc (.cells #[.string nm] 9)).drew.cell? ⟨w.heap.size, 5, none⟩ = some (.slice ub u.fields.length ud) := ⟨q0, q1, q2, q3, q4, q5⟩
          have hl5x := HST.out.2.1.lt
          obtain ⟨⟨q0, q1, q2, q3, q4, q5⟩, _⟩ := (HST.out.al (.cells #[.int .i64 0, .bool false, .int .i64 0, .string ⟨#[]⟩, .slice none 0 0, .slice none 0 0] 26)).2.1.six
          have HS5z := Lib.hid (show ((((w5.alloc (.cells #[.int .i64 g.kind, .bool g.yes, .int .i64 g.num, .string g.text, .slice ga g.list.length gc, .slice gb g.fields.length gd] 26)).alloc (.cells #[.string nm] 9)).alloc (.cells #[.int .i64 0, .bool false, .int .i64 0, .string ⟨#[]⟩, .slice none 0 0, .slice none 0 0] 26)).drew).cell? ⟨w.heap.size, 0, none⟩ = some (.int .i64 u.kind) ∧ ((((w5.alloc (.cells #[.int .i64 g.kind, .bool g.yes, .int .i64 g.num, .string g.text, .slice ga g.list.length gc, .slice gb g.fields.length gd] 26)).alloc (.cells #[.string nm] 9)).alloc (.cells #[.int .i64 0, .bool false, .int .i64 0, .string ⟨#[]⟩, .slice none 0 0, .slice none 0 0] 26)).drew).cell? ⟨w.heap.size, 1, none⟩ = some (.bool u.yes) ∧ ((((w5.alloc (.cells #[.int .i64 g.kind, .bool g.yes, .int .i64 g.num, .string g.text, .slice ga g.list.length gc, .slice gb g.fields.length gd] 26)).alloc (.cells #[.string nm] 9)).alloc (.cells #[.int .i64 0, .bool false, .int .i64 0, .string ⟨#[]⟩, .slice none 0 0, .slice none 0 0] 26)).drew).cell? ⟨w.heap.size, 2, none⟩ = some (.int .i64 u.num) ∧ ((((w5.alloc (.cells #[.int .i64 g.kind, .bool g.yes, .int .i64 g.num, .string g.text, .slice ga g.list.length gc, .slice gb g.fields.length gd] 26)).alloc (.cells #[.string nm] 9)).alloc (.cells #[.int .i64 0, .bool false, .int .i64 0, .string ⟨#[]⟩, .slice none 0 0, .slice none 0 0] 26)).drew).cell? ⟨w.heap.size, 3, none⟩ = some (.string u.text) ∧ ((((w5.alloc (.cells #[.int .i64 g.kind, .bool g.yes, .int .i64 g.num, .string g.text, .slice ga g.list.length gc, .slice gb g.fields.length gd] 26)).alloc (.cells #[.string nm] 9)).alloc (.cells #[.int .i64 0, .bool false, .int .i64 0, .string ⟨#[]⟩, .slice none 0 0, .slice none 0 0] 26)).drew).cell? ⟨w.heap.size, 4, none⟩ = some (.slice ua u.list.length uc) ∧ ((((w5.alloc (.cells #[.int .i64 g.kind, .bool g.yes, .int .i64 g.num, .string g.text, .slice ga g.list.length gc, .slice gb g.fields.length gd] 26)).alloc (.cells #[.string nm] 9)).alloc (.cells #[.int .i64 0, .bool false, .int .i64 0, .string ⟨#[]⟩, .slice none 0 0, .slice none 0 0] 26)).drew).cell? ⟨w.heap.size, 5, none⟩ = some (.slice ub u.fields.length ud) from ⟨q0, q1, q2, q3, q4, q5⟩)
          clear q0 q1 q2 q3 q4 q5
          go_region_held3 (fun w' => w'.cell? ⟨w.heap.size, 0, none⟩ = some (.int .i64 u.kind) ∧ w'.cell? ⟨w.heap.size, 1, none⟩ = some (.bool u.yes) ∧ w'.cell? ⟨w.heap.size, 2, none⟩ = some (.int .i64 u.num) ∧ w'.cell? ⟨w.heap.size, 3, none⟩ = some (.string u.text) ∧ w'.cell? ⟨w.heap.size, 4, none⟩ = some (.slice ua u.list.length uc) ∧ w'.cell? ⟨w.heap.size, 5, none⟩ = some (.slice ub u.fields.length ud)) (first | with_reducible exact hS5 | with_reducible exact HS5z.out | with_reducible exact hS6 | with_reducible exact hS7 | with_reducible exact hS8 | with_reducible exact hS9 | go_keep)
            (first
              | (go_at_call 21
                 have hz7 := HZ7.out
                 have hT3 := HT4.out
                 with_reducible refine hT3.mono ?_
                 rintro e w8 ⟨ya, yc, yb, yd, rfl, hyat, hb8⟩
                 have hA2 : Below w7.heap.size w7 (w7.alloc (.cells #[.int .i64 1, .slice (some ⟨w5.heap.size + 1, 0, none⟩) 1 1, .int .i64 2, .bool false, .int .i64 0, .string ⟨#[]⟩, .slice none 0 0, .slice none 0 0, .int .i64 3, .slice (some ⟨w5.heap.size + 1, 0, none⟩) 1 1, .int .i64 2, .bool false, .int .i64 m, .string ⟨#[]⟩, .slice none 0 0, .slice none 0 0] 50)) := (Below.refl _ w7).alloc (Nat.le_refl _) _
                 have hb58 := HS7.out.2.trans ((hA2.trans (hb8.mono hA2.size)).mono HS7.out.2.size)
                 have hz8 : Box w8 _ 26 #[.int .i64 0, .bool false, .int .i64 0, .string ⟨#[]⟩, .slice none 0 0, .slice none 0 0] := (hb8.block _ (by have hq := hz7.lt; simp; omega)).trans (hz7.alloc (.cells #[.int .i64 1, .slice (some ⟨w5.heap.size + 1, 0, none⟩) 1 1, .int .i64 2, .bool false, .int .i64 0, .string ⟨#[]⟩, .slice none 0 0, .slice none 0 0, .int .i64 3, .slice (some ⟨w5.heap.size + 1, 0, none⟩) 1 1, .int .i64 2, .bool false, .int .i64 m, .string ⟨#[]⟩, .slice none 0 0, .slice none 0 0] 50))
                 have hyb := yb_set HST.out hb58 HL7.out hz8 (by have hq := hz7.lt; simp; omega) hyat
                 have HR8 := Lib.hid hyb
                 obtain ⟨⟨r0, r1, r2, r3, r4, r5⟩, _⟩ := hyb.2.2.2.1.six
                 have hS9 := And.intro r0 (And.intro r1 (And.intro r2 (And.intro r3 (And.intro r4 r5))))
                 simp only [sets, Nat.zero_add, Nat.reduceAdd] at hS9
                 have hst8 := HST.out.below hb58
                 obtain ⟨⟨p0, p1, p2, p3, p4, p5⟩, _⟩ := hst8.2.1.six
                 have hl8 := hst8.2.1.lt
                 have hS8 : w8.cell? ⟨w.heap.size, 0, none⟩ = some (.int .i64 u.kind) ∧ w8.cell? ⟨w.heap.size, 1, none⟩ = some (.bool u.yes) ∧ w8.cell? ⟨w.heap.size, 2, none⟩ = some (.int .i64 u.num) ∧ w8.cell? ⟨w.heap.size, 3, none⟩ = some (.string u.text) ∧ w8.cell? ⟨w.heap.size, 4, none⟩ = some (.slice ua u.list.length uc) ∧ w8.cell? ⟨w.heap.size, 5, none⟩ = some (.slice ub u.fields.length ud) := ⟨p0, p1, p2, p3, p4, p5⟩
                 obtain ⟨⟨z0, z1, z2, z3, z4, z5⟩, s0, s1, s2, s3, s4, s5⟩ := hz8.six
                 have hzl := hz8.lt
                 clear hb8 hyat hb58 hz8 hA2 hyb hst8 r0 r1 r2 r3 r4 r5)
              | (go_at_call 21
                 have hT3 := HT2.out
                 with_reducible refine hT3.mono ?_
                 rintro e w8 ⟨ya, yc, yb, yd, rfl, hyat, hb8⟩
                 have hA2 : Below w7.heap.size w7 ((w7.alloc (.cells #[.int .i64 0, .bool false, .int .i64 0, .string ⟨#[]⟩, .slice none 0 0, .slice none 0 0] 26)).alloc (.cells #[.int .i64 1, .slice (some ⟨w5.heap.size + 1, 0, none⟩) 1 1, .int .i64 2, .bool false, .int .i64 0, .string ⟨#[]⟩, .slice none 0 0, .slice none 0 0, .int .i64 3, .slice (some ⟨w5.heap.size + 1, 0, none⟩) 1 1, .int .i64 2, .bool false, .int .i64 m, .string ⟨#[]⟩, .slice none 0 0, .slice none 0 0] 50)) := ((Below.refl _ w7).alloc (Nat.le_refl _) _).alloc (by simp) _
                 have hb58 := HS7.out.2.trans ((hA2.trans (hb8.mono hA2.size)).mono HS7.out.2.size)
                 have hz8 : Box w8 _ 26 #[.int .i64 0, .bool false, .int .i64 0, .string ⟨#[]⟩, .slice none 0 0, .slice none 0 0] := (hb8.block _ (by simp; omega)).trans ((Box.new w7 26 #[.int .i64 0, .bool false, .int .i64 0, .string ⟨#[]⟩, .slice none 0 0, .slice none 0 0]).alloc (.cells #[.int .i64 1, .slice (some ⟨w5.heap.size + 1, 0, none⟩) 1 1, .int .i64 2, .bool false, .int .i64 0, .string ⟨#[]⟩, .slice none 0 0, .slice none 0 0, .int .i64 3, .slice (some ⟨w5.heap.size + 1, 0, none⟩) 1 1, .int .i64 2, .bool false, .int .i64 m, .string ⟨#[]⟩, .slice none 0 0, .slice none 0 0] 50))
                 have hyb := yb_set HST.out hb58 HS7.out.2.size hz8 (by simp; omega) hyat
                 have HR8 := Lib.hid hyb
                 obtain ⟨⟨r0, r1, r2, r3, r4, r5⟩, _⟩ := hyb.2.2.2.1.six
                 have hS9 := And.intro r0 (And.intro r1 (And.intro r2 (And.intro r3 (And.intro r4 r5))))
                 simp only [sets, Nat.zero_add, Nat.reduceAdd] at hS9
                 have hst8 := HST.out.below hb58
                 obtain ⟨⟨p0, p1, p2, p3, p4, p5⟩, _⟩ := hst8.2.1.six
                 have hl8 := hst8.2.1.lt
                 have hS8 : w8.cell? ⟨w.heap.size, 0, none⟩ = some (.int .i64 u.kind) ∧ w8.cell? ⟨w.heap.size, 1, none⟩ = some (.bool u.yes) ∧ w8.cell? ⟨w.heap.size, 2, none⟩ = some (.int .i64 u.num) ∧ w8.cell? ⟨w.heap.size, 3, none⟩ = some (.string u.text) ∧ w8.cell? ⟨w.heap.size, 4, none⟩ = some (.slice ua u.list.length uc) ∧ w8.cell? ⟨w.heap.size, 5, none⟩ = some (.slice ub u.fields.length ud) := ⟨p0, p1, p2, p3, p4, p5⟩
                 obtain ⟨⟨z0, z1, z2, z3, z4, z5⟩, s0, s1, s2, s3, s4, s5⟩ := hz8.six
                 have hzl := hz8.lt
                 clear hb8 hyat hb58 hz8 hA2 hyb hst8 r0 r1 r2 r3 r4 r5)
              | (go_at_call 21
                 have hT4 := HT4.out
                 with_reducible refine hT4.mono ?_
                 rintro e w8 ⟨ya, yc, yb, yd, rfl, hyat, hb8⟩
                 have hb58 := HS7.out.2.trans ((((Below.refl _ w7).alloc (Nat.le_refl _) (.cells #[.int .i64 1, .slice (some ⟨w5.heap.size + 1, 0, none⟩) 1 1, .int .i64 2, .bool false, .int .i64 0, .string ⟨#[]⟩, .slice none 0 0, .slice none 0 0, .int .i64 3, .slice (some ⟨w5.heap.size + 1, 0, none⟩) 1 1, .int .i64 2, .bool false, .int .i64 m, .string ⟨#[]⟩, .slice none 0 0, .slice none 0 0] 50)).trans (hb8.mono (by simp))).mono HS7.out.2.size)
                 have HR8 := Lib.hid (yb_new HST.out hb58 hyat.is)
                 have hst8 := HST.out.below hb58
                 obtain ⟨⟨p0, p1, p2, p3, p4, p5⟩, _⟩ := hst8.2.1.six
                 have hl8 := hst8.2.1.lt
                 have hS8 : w8.cell? ⟨w.heap.size, 0, none⟩ = some (.int .i64 u.kind) ∧ w8.cell? ⟨w.heap.size, 1, none⟩ = some (.bool u.yes) ∧ w8.cell? ⟨w.heap.size, 2, none⟩ = some (.int .i64 u.num) ∧ w8.cell? ⟨w.heap.size, 3, none⟩ = some (.string u.text) ∧ w8.cell? ⟨w.heap.size, 4, none⟩ = some (.slice ua u.list.length uc) ∧ w8.cell? ⟨w.heap.size, 5, none⟩ = some (.slice ub u.fields.length ud) := ⟨p0, p1, p2, p3, p4, p5⟩
                 clear hb8 hyat hb58 hst8)
              | (go_at_call 21
                 have hT3 := HT3.out
                 with_reducible refine hT3.mono ?_
                 rintro e w8 ⟨ya, yc, yb, yd, rfl, hyat, hb8⟩
                 have hA2 : Below w7.heap.size w7 ((w7.alloc (.cells #[.int .i64 1, .slice (some ⟨w5.heap.size + 1, 0, none⟩) 1 1, .int .i64 2, .bool false, .int .i64 0, .string ⟨#[]⟩, .slice none 0 0, .slice none 0 0, .int .i64 3, .slice (some ⟨w5.heap.size + 1, 0, none⟩) 1 1, .int .i64 2, .bool false, .int .i64 m, .string ⟨#[]⟩, .slice none 0 0, .slice none 0 0] 50)).alloc (.cells #[.int .i64 0, .bool false, .int .i64 0, .string ⟨#[]⟩, .slice none 0 0, .slice none 0 0] 26)) := ((Below.refl _ w7).alloc (Nat.le_refl _) _).alloc (by simp) _
                 have hb58 := HS7.out.2.trans ((hA2.trans (hb8.mono hA2.size)).mono HS7.out.2.size)
                 have hz8 : Box w8 (w7.heap.size + 1) 26 #[.int .i64 0, .bool false, .int .i64 0, .string ⟨#[]⟩, .slice none 0 0, .slice none 0 0] := (hb8.block _ (by simp)).trans (zbox w7 (.cells #[.int .i64 1, .slice (some ⟨w5.heap.size + 1, 0, none⟩) 1 1, .int .i64 2, .bool false, .int .i64 0, .string ⟨#[]⟩, .slice none 0 0, .slice none 0 0, .int .i64 3, .slice (some ⟨w5.heap.size + 1, 0, none⟩) 1 1, .int .i64 2, .bool false, .int .i64 m, .string ⟨#[]⟩, .slice none 0 0, .slice none 0 0] 50))
                 have hyb := yb_set HST.out hb58 (by have h1 := HS7.out.2.size; have h2 := HW0.out; omega) hz8 (by simp) hyat
                 have HR8 := Lib.hid hyb
                 obtain ⟨⟨r0, r1, r2, r3, r4, r5⟩, _⟩ := hyb.2.2.2.1.six
                 have hS9 : (sets w8 (w7.heap.size + 1) 0 [.int .i64 y.kind, .bool y.yes, .int .i64 y.num, .string y.text, .slice ya y.list.length yc, .slice yb y.fields.length yd]).cell? ⟨w.heap.size, 0, none⟩ = some (.int .i64 u.kind) ∧ (sets w8 (w7.heap.size + 1) 0 [.int .i64 y.kind, .bool y.yes, .int .i64 y.num, .string y.text, .slice ya y.list.length yc, .slice yb y.fields.length yd]).cell? ⟨w.heap.size, 1, none⟩ = some (.bool u.yes) ∧ (sets w8 (w7.heap.size + 1) 0 [.int .i64 y.kind, .bool y.yes, .int .i64 y.num, .string y.text, .slice ya y.list.length yc, .slice yb y.fields.length yd]).cell? ⟨w.heap.size, 2, none⟩ = some (.int .i64 u.num) ∧ (sets w8 (w7.heap.size + 1) 0 [.int .i64 y.kind, .bool y.yes, .int .i64 y.num, .string y.text, .slice ya y.list.length yc, .slice yb y.fields.length yd]).cell? ⟨w.heap.size, 3, none⟩ = some (.string u.text) ∧ (sets w8 (w7.heap.size + 1) 0 [.int .i64 y.kind, .bool y.yes, .int .i64 y.num, .string y.text, .slice ya y.list.length yc, .slice yb y.fields.length yd]).cell? ⟨w.heap.size, 4, none⟩ = some (.slice ua u.list.length uc) ∧ (sets w8 (w7.heap.size + 1) 0 [.int .i64 y.kind, .bool y.yes, .int .i64 y.num, .string y.text, .slice ya y.list.length yc, .slice yb y.fields.length yd]).cell? ⟨w.heap.size, 5, none⟩ = some (.slice ub u.fields.length ud) := ⟨r0, r1, r2, r3, r4, r5⟩
                 simp only [sets, Nat.zero_add, Nat.reduceAdd] at hS9
                 have hst8 := HST.out.below hb58
                 obtain ⟨⟨p0, p1, p2, p3, p4, p5⟩, _⟩ := hst8.2.1.six
                 have hl8 := hst8.2.1.lt
                 have hS8 : w8.cell? ⟨w.heap.size, 0, none⟩ = some (.int .i64 u.kind) ∧ w8.cell? ⟨w.heap.size, 1, none⟩ = some (.bool u.yes) ∧ w8.cell? ⟨w.heap.size, 2, none⟩ = some (.int .i64 u.num) ∧ w8.cell? ⟨w.heap.size, 3, none⟩ = some (.string u.text) ∧ w8.cell? ⟨w.heap.size, 4, none⟩ = some (.slice ua u.list.length uc) ∧ w8.cell? ⟨w.heap.size, 5, none⟩ = some (.slice ub u.fields.length ud) := ⟨p0, p1, p2, p3, p4, p5⟩
                 obtain ⟨⟨z0, z1, z2, z3, z4, z5⟩, s0, s1, s2, s3, s4, s5⟩ := hz8.six
                 have hzl := hz8.lt
                 clear hb8 hyat hb58 hz8 hA2 hyb hst8 r0 r1 r2 r3 r4 r5)
              | (go_at_call 31
                 have hz6 := HZ6.out
                 have hq6 := HS6.out
                 with_reducible refine (ofInt_any _ w6).mono ?_
                 rintro e w7 ⟨rfl, hb70⟩
                 have hb7 : Below w6.heap.size w6 w7 := hb70
                 have hst7 := hq6.1.below hb7
                 obtain ⟨⟨n0, n1, n2, n3, n4, n5⟩, _⟩ := hst7.2.1.six
                 have hnl := hst7.2.1.lt
                 have hS7 : w7.cell? ⟨w.heap.size, 0, none⟩ = some (.int .i64 u.kind) ∧ w7.cell? ⟨w.heap.size, 1, none⟩ = some (.bool u.yes) ∧ w7.cell? ⟨w.heap.size, 2, none⟩ = some (.int .i64 u.num) ∧ w7.cell? ⟨w.heap.size, 3, none⟩ = some (.string u.text) ∧ w7.cell? ⟨w.heap.size, 4, none⟩ = some (.slice ua u.list.length uc) ∧ w7.cell? ⟨w.heap.size, 5, none⟩ = some (.slice ub u.fields.length ud) := ⟨n0, n1, n2, n3, n4, n5⟩
                 have HS7 := Lib.hid (And.intro hst7 (hq6.2.trans (hb7.mono hq6.2.size)))
                 have HT4 := Lib.hid (two_call (hst7.al (.cells #[.int .i64 1, .slice (some ⟨w5.heap.size + 1, 0, none⟩) 1 1, .int .i64 2, .bool false, .int .i64 0, .string ⟨#[]⟩, .slice none 0 0, .slice none 0 0, .int .i64 3, .slice (some ⟨w5.heap.size + 1, 0, none⟩) 1 1, .int .i64 2, .bool false, .int .i64 m, .string ⟨#[]⟩, .slice none 0 0, .slice none 0 0] 50)) HU.out.2.1 HU.out.2.2 HY.out.1 (Box.new w7 _ _))
                 have HZ7 := Lib.hid (show Box w7 _ 26 #[.int .i64 0, .bool false, .int .i64 0, .string ⟨#[]⟩, .slice none 0 0, .slice none 0 0] from (hb70.block _ hz6.lt).trans hz6)
                 have HL7 := HL6
                 clear hz6
                 clear hb7 hb70 hst7 hq6)
              | (go_at_call 31
                 have hq6 := HS6.out
                 with_reducible refine (ofInt_any _ (w6.alloc (.cells #[.int .i64 0, .bool false, .int .i64 0, .string ⟨#[]⟩, .slice none 0 0, .slice none 0 0] 26))).mono ?_
                 rintro e w7 ⟨rfl, hb70⟩
                 have hA : Below w6.heap.size w6 (w6.alloc (.cells #[.int .i64 0, .bool false, .int .i64 0, .string ⟨#[]⟩, .slice none 0 0, .slice none 0 0] 26)) := (Below.refl _ w6).alloc (Nat.le_refl _) _
                 have hz6 := Box.new w6 26 #[.int .i64 0, .bool false, .int .i64 0, .string ⟨#[]⟩, .slice none 0 0, .slice none 0 0]
                 have hb7 : Below w6.heap.size w6 w7 := hA.trans (hb70.mono hA.size)
                 have hst7 := hq6.1.below hb7
                 obtain ⟨⟨n0, n1, n2, n3, n4, n5⟩, _⟩ := hst7.2.1.six
                 have hnl := hst7.2.1.lt
                 have hS7 : w7.cell? ⟨w.heap.size, 0, none⟩ = some (.int .i64 u.kind) ∧ w7.cell? ⟨w.heap.size, 1, none⟩ = some (.bool u.yes) ∧ w7.cell? ⟨w.heap.size, 2, none⟩ = some (.int .i64 u.num) ∧ w7.cell? ⟨w.heap.size, 3, none⟩ = some (.string u.text) ∧ w7.cell? ⟨w.heap.size, 4, none⟩ = some (.slice ua u.list.length uc) ∧ w7.cell? ⟨w.heap.size, 5, none⟩ = some (.slice ub u.fields.length ud) := ⟨n0, n1, n2, n3, n4, n5⟩
                 have HS7 := Lib.hid (And.intro hst7 (hq6.2.trans (hb7.mono hq6.2.size)))
                 have HT4 := Lib.hid (two_call (hst7.al (.cells #[.int .i64 1, .slice (some ⟨w5.heap.size + 1, 0, none⟩) 1 1, .int .i64 2, .bool false, .int .i64 0, .string ⟨#[]⟩, .slice none 0 0, .slice none 0 0, .int .i64 3, .slice (some ⟨w5.heap.size + 1, 0, none⟩) 1 1, .int .i64 2, .bool false, .int .i64 m, .string ⟨#[]⟩, .slice none 0 0, .slice none 0 0] 50)) HU.out.2.1 HU.out.2.2 HY.out.1 (Box.new w7 _ _))
                 have HZ7 := Lib.hid (show Box w7 _ 26 #[.int .i64 0, .bool false, .int .i64 0, .string ⟨#[]⟩, .slice none 0 0, .slice none 0 0] from (hb70.block _ hz6.lt).trans hz6)
                 have HL7 := Lib.hid hq6.2.size
                 clear hz6 hA
                 clear hb7 hb70 hst7 hq6)
              | (go_at_call 31
                 have hq6 := HS6.out
                 with_reducible refine (ofInt_any _ w6).mono ?_
                 rintro e w7 ⟨rfl, hb70⟩
                 have hb7 : Below w6.heap.size w6 w7 := hb70
                 have hst7 := hq6.1.below hb7
                 obtain ⟨⟨n0, n1, n2, n3, n4, n5⟩, _⟩ := hst7.2.1.six
                 have hnl := hst7.2.1.lt
                 have hS7 : w7.cell? ⟨w.heap.size, 0, none⟩ = some (.int .i64 u.kind) ∧ w7.cell? ⟨w.heap.size, 1, none⟩ = some (.bool u.yes) ∧ w7.cell? ⟨w.heap.size, 2, none⟩ = some (.int .i64 u.num) ∧ w7.cell? ⟨w.heap.size, 3, none⟩ = some (.string u.text) ∧ w7.cell? ⟨w.heap.size, 4, none⟩ = some (.slice ua u.list.length uc) ∧ w7.cell? ⟨w.heap.size, 5, none⟩ = some (.slice ub u.fields.length ud) := ⟨n0, n1, n2, n3, n4, n5⟩
                 have HS7 := Lib.hid (And.intro hst7 (hq6.2.trans (hb7.mono hq6.2.size)))
                 have HT4 := Lib.hid (two_call (hst7.al (.cells #[.int .i64 1, .slice (some ⟨w5.heap.size + 1, 0, none⟩) 1 1, .int .i64 2, .bool false, .int .i64 0, .string ⟨#[]⟩, .slice none 0 0, .slice none 0 0, .int .i64 3, .slice (some ⟨w5.heap.size + 1, 0, none⟩) 1 1, .int .i64 2, .bool false, .int .i64 m, .string ⟨#[]⟩, .slice none 0 0, .slice none 0 0] 50)) HU.out.2.1 HU.out.2.2 HY.out.1 (Box.new w7 _ _))
                 have HT3 := Lib.hid (two_call ((hst7.al (.cells #[.int .i64 1, .slice (some ⟨w5.heap.size + 1, 0, none⟩) 1 1, .int .i64 2, .bool false, .int .i64 0, .string ⟨#[]⟩, .slice none 0 0, .slice none 0 0, .int .i64 3, .slice (some ⟨w5.heap.size + 1, 0, none⟩) 1 1, .int .i64 2, .bool false, .int .i64 m, .string ⟨#[]⟩, .slice none 0 0, .slice none 0 0] 50)).al (.cells #[.int .i64 0, .bool false, .int .i64 0, .string ⟨#[]⟩, .slice none 0 0, .slice none 0 0] 26)) HU.out.2.1 HU.out.2.2 HY.out.1 ((Box.new w7 _ _).alloc _))
                 have HT2 := Lib.hid (two_call ((hst7.al (.cells #[.int .i64 0, .bool false, .int .i64 0, .string ⟨#[]⟩, .slice none 0 0, .slice none 0 0] 26)).al (.cells #[.int .i64 1, .slice (some ⟨w5.heap.size + 1, 0, none⟩) 1 1, .int .i64 2, .bool false, .int .i64 0, .string ⟨#[]⟩, .slice none 0 0, .slice none 0 0, .int .i64 3, .slice (some ⟨w5.heap.size + 1, 0, none⟩) 1 1, .int .i64 2, .bool false, .int .i64 m, .string ⟨#[]⟩, .slice none 0 0, .slice none 0 0] 50)) HU.out.2.1 HU.out.2.2 HY.out.1 (box2 w7 _ _ _))
                 clear hb7 hb70 hst7 hq6)
              | (go_at_call 31
                 with_reducible refine (ofInt_any _ ((w5.alloc (.cells #[.int .i64 g.kind, .bool g.yes, .int .i64 g.num, .string g.text, .slice ga g.list.length gc, .slice gb g.fields.length gd] 26)).alloc (.cells #[.string nm] 9)).drew).mono ?_
                 rintro e w6 ⟨rfl, hb60⟩
                 have hb6 : Below ((w5.alloc (.cells #[.int .i64 g.kind, .bool g.yes, .int .i64 g.num, .string g.text, .slice ga g.list.length gc, .slice gb g.fields.length gd] 26)).alloc (.cells #[.string nm] 9)).drew.heap.size ((w5.alloc (.cells #[.int .i64 g.kind, .bool g.yes, .int .i64 g.num, .string g.text, .slice ga g.list.length gc, .slice gb g.fields.length gd] 26)).alloc (.cells #[.string nm] 9)).drew w6 := hb60
                 have hst6 := HST.out.below hb6
                 obtain ⟨⟨m0, m1, m2, m3, m4, m5⟩, _⟩ := hst6.2.1.six
                 have hml := hst6.2.1.lt
                 have hS6 : w6.cell? ⟨w.heap.size, 0, none⟩ = some (.int .i64 u.kind) ∧ w6.cell? ⟨w.heap.size, 1, none⟩ = some (.bool u.yes) ∧ w6.cell? ⟨w.heap.size, 2, none⟩ = some (.int .i64 u.num) ∧ w6.cell? ⟨w.heap.size, 3, none⟩ = some (.string u.text) ∧ w6.cell? ⟨w.heap.size, 4, none⟩ = some (.slice ua u.list.length uc) ∧ w6.cell? ⟨w.heap.size, 5, none⟩ = some (.slice ub u.fields.length ud) := ⟨m0, m1, m2, m3, m4, m5⟩
                 have HS6 := Lib.hid (And.intro hst6 hb6)
                 clear hb6 hb60 hst6)
              | (go_at_call 31
                 with_reducible refine (ofInt_any _ ((((w5.alloc (.cells #[.int .i64 g.kind, .bool g.yes, .int .i64 g.num, .string g.text, .slice ga g.list.length gc, .slice gb g.fields.length gd] 26)).alloc (.cells #[.string nm] 9)).alloc (.cells #[.int .i64 0, .bool false, .int .i64 0, .string ⟨#[]⟩, .slice none 0 0, .slice none 0 0] 26)).drew)).mono ?_
                 rintro e w6 ⟨rfl, hb61⟩
                 have hb60 : Below (((w5.alloc (.cells #[.int .i64 g.kind, .bool g.yes, .int .i64 g.num, .string g.text, .slice ga g.list.length gc, .slice gb g.fields.length gd] 26)).alloc (.cells #[.string nm] 9)).drew.alloc (.cells #[.int .i64 0, .bool false, .int .i64 0, .string ⟨#[]⟩, .slice none 0 0, .slice none 0 0] 26)).heap.size (((w5.alloc (.cells #[.int .i64 g.kind, .bool g.yes, .int .i64 g.num, .string g.text, .slice ga g.list.length gc, .slice gb g.fields.length gd] 26)).alloc (.cells #[.string nm] 9)).drew.alloc (.cells #[.int .i64 0, .bool false, .int .i64 0, .string ⟨#[]⟩, .slice none 0 0, .slice none 0 0] 26)) w6 := hb61
                 have hA : Below ((w5.alloc (.cells #[.int .i64 g.kind, .bool g.yes, .int .i64 g.num, .string g.text, .slice ga g.list.length gc, .slice gb g.fields.length gd] 26)).alloc (.cells #[.string nm] 9)).drew.heap.size ((w5.alloc (.cells #[.int .i64 g.kind, .bool g.yes, .int .i64 g.num, .string g.text, .slice ga g.list.length gc, .slice gb g.fields.length gd] 26)).alloc (.cells #[.string nm] 9)).drew (((w5.alloc (.cells #[.int .i64 g.kind, .bool g.yes, .int .i64 g.num, .string g.text, .slice ga g.list.length gc, .slice gb g.fields.length gd] 26)).alloc (.cells #[.string nm] 9)).drew.alloc (.cells #[.int .i64 0, .bool false, .int .i64 0, .string ⟨#[]⟩, .slice none 0 0, .slice none 0 0] 26)) := (Below.refl _ _).alloc (Nat.le_refl _) _
                 have hz5 := Box.new ((w5.alloc (.cells #[.int .i64 g.kind, .bool g.yes, .int .i64 g.num, .string g.text, .slice ga g.list.length gc, .slice gb g.fields.length gd] 26)).alloc (.cells #[.string nm] 9)).drew 26 #[.int .i64 0, .bool false, .int .i64 0, .string ⟨#[]⟩, .slice none 0 0, .slice none 0 0]
                 have hw0 := HW0.out
                 have HL6 := Lib.hid (Nat.le_of_eq hw0)
                 have hb6 : Below ((w5.alloc (.cells #[.int .i64 g.kind, .bool g.yes, .int .i64 g.num, .string g.text, .slice ga g.list.length gc, .slice gb g.fields.length gd] 26)).alloc (.cells #[.string nm] 9)).drew.heap.size ((w5.alloc (.cells #[.int .i64 g.kind, .bool g.yes, .int .i64 g.num, .string g.text, .slice ga g.list.length gc, .slice gb g.fields.length gd] 26)).alloc (.cells #[.string nm] 9)).drew w6 := hA.trans (hb60.mono hA.size)
                 have hst6 := HST.out.below hb6
                 obtain ⟨⟨m0, m1, m2, m3, m4, m5⟩, _⟩ := hst6.2.1.six
                 have hml := hst6.2.1.lt
                 have hS6 : w6.cell? ⟨w.heap.size, 0, none⟩ = some (.int .i64 u.kind) ∧ w6.cell? ⟨w.heap.size, 1, none⟩ = some (.bool u.yes) ∧ w6.cell? ⟨w.heap.size, 2, none⟩ = some (.int .i64 u.num) ∧ w6.cell? ⟨w.heap.size, 3, none⟩ = some (.string u.text) ∧ w6.cell? ⟨w.heap.size, 4, none⟩ = some (.slice ua u.list.length uc) ∧ w6.cell? ⟨w.heap.size, 5, none⟩ = some (.slice ub u.fields.length ud) := ⟨m0, m1, m2, m3, m4, m5⟩
                 have HS6 := Lib.hid (And.intro hst6 hb6)
                 have hz6 : Box w6 _ 26 #[.int .i64 0, .bool false, .int .i64 0, .string ⟨#[]⟩, .slice none 0 0, .slice none 0 0] := (hb60.block _ hz5.lt).trans hz5
                 rw [hw0] at hz6
                 have HZ6 := Lib.hid hz6
                 clear hz5 hz6 hA hw0
                 clear hb6 hb60 hb61 hst6))
          all_goals
            go_wp2_with fail
            go_meet
            exact ⟨_, ya, yc, yb, yd, rfl, rfl, HR8⟩
        case rest =>
          clear q0 q1 q2 q3 q4 q5 hql
          obtain ⟨bx, ya, yc, yb, yd, rfl, rfl, HC⟩ := hcut
          obtain ⟨hbx, hyat, hst⟩ := HC.out
          have hget := get_g y.kind HY.out.2.1 y.yes y.num y.text ya y.list.length yc (V.at_iff.1 hyat).2 (fun p hp => ((okv_iff.1 HY.out.2.2.1).2.2 p hp).sm (by omega)) (by have := (okv_iff.1 HY.out.2.2.1).1.2.1; omega) nm
          rw [HY.out.2.2.2.1, HY.out.2.2.2.2.1] at hget
          have HGET := Lib.hid hget
          have HC1 := Lib.hid (And.intro hbx (And.intro hyat hst))
          obtain ⟨⟨y0, y1, y2, y3, y4, y5⟩, _⟩ := hbx.six
          have hyl := hbx.lt
          clear hget hbx hyat hst HC HST
          go_wp2_with fail
          refine HGET.out.mono ?_
          rintro e w9 ⟨xa, xc, xb, xd, rfl, hxat, hb9⟩
          obtain ⟨hbx, hyat, hst⟩ := HC1.out
          have hbx9 : Box w9 bx 26 #[.int .i64 y.kind, .bool y.yes, .int .i64 y.num, .string y.text, .slice ya y.list.length yc, .slice yb y.fields.length yd] := (hb9.block _ hbx.lt).trans hbx
          have hst9 := hst.below hb9
          have hA10 : Below w9.heap.size w9 (w9.alloc (.cells #[.int .i64 (intV m).kind, .bool (intV m).yes, .int .i64 (intV m).num, .string (intV m).text, .slice xa (intV m).list.length xc, .slice xb (intV m).fields.length xd] 26)) := (Below.refl _ w9).alloc (Nat.le_refl _) _
          have hA11 : Below w9.heap.size w9 ((w9.alloc (.cells #[.int .i64 (intV m).kind, .bool (intV m).yes, .int .i64 (intV m).num, .string (intV m).text, .slice xa (intV m).list.length xc, .slice xb (intV m).fields.length xd] 26)).alloc (.cells #[.int .i64 2, .slice (some ⟨w5.heap.size + 1, 0, none⟩) 1 1, .int .i64 0, .bool false, .int .i64 0, .string ⟨#[]⟩, .slice none 0 0, .slice none 0 0] 50)) := hA10.alloc hA10.size _
          have hbo : Box ((w9.alloc (.cells #[.int .i64 (intV m).kind, .bool (intV m).yes, .int .i64 (intV m).num, .string (intV m).text, .slice xa (intV m).list.length xc, .slice xb (intV m).fields.length xd] 26)).alloc (.cells #[.int .i64 2, .slice (some ⟨w5.heap.size + 1, 0, none⟩) 1 1, .int .i64 0, .bool false, .int .i64 0, .string ⟨#[]⟩, .slice none 0 0, .slice none 0 0] 50)) (w9.heap.size + 1) 50 #[.int .i64 2, .slice (some ⟨w5.heap.size + 1, 0, none⟩) 1 1, .int .i64 0, .bool false, .int .i64 0, .string ⟨#[]⟩, .slice none 0 0, .slice none 0 0] := by
            have h1 := Box.new (w9.alloc (.cells #[.int .i64 (intV m).kind, .bool (intV m).yes, .int .i64 (intV m).num, .string (intV m).text, .slice xa (intV m).list.length xc, .slice xb (intV m).fields.length xd] 26)) 50 #[.int .i64 2, .slice (some ⟨w5.heap.size + 1, 0, none⟩) 1 1, .int .i64 0, .bool false, .int .i64 0, .string ⟨#[]⟩, .slice none 0 0, .slice none 0 0]
            rw [show (w9.alloc (.cells #[.int .i64 (intV m).kind, .bool (intV m).yes, .int .i64 (intV m).num, .string (intV m).text, .slice xa (intV m).list.length xc, .slice xb (intV m).fields.length xd] 26)).heap.size = w9.heap.size + 1 by simp] at h1
            exact h1
          have hops : OpsAt ((w9.alloc (.cells #[.int .i64 (intV m).kind, .bool (intV m).yes, .int .i64 (intV m).num, .string (intV m).text, .slice xa (intV m).list.length xc, .slice xb (intV m).fields.length xd] 26)).alloc (.cells #[.int .i64 2, .slice (some ⟨w5.heap.size + 1, 0, none⟩) 1 1, .int .i64 0, .bool false, .int .i64 0, .string ⟨#[]⟩, .slice none 0 0, .slice none 0 0] 50)) All (some ⟨w9.heap.size + 1, 0, none⟩) [⟨2, [nm], V.null⟩] := op_at (hst9.below hA11).2.2.2 hbo (none_at _ _ V.null rfl rfl)
          have hcall := apply_any y [⟨2, [nm], V.null⟩] ya yc yb yd (some ⟨w9.heap.size + 1, 0, none⟩) 1 9 _ ((hyat.below hb9).below hA11) hops (by simp) HY.out.2.2.1 (by omega) (fun o ho _ => by rw [show o = ⟨2, [nm], V.null⟩ by simpa using ho]; exact null_okv 9)
          rw [HY.out.2.2.2.2.2.1] at hcall
          have HCALL := Lib.hid hcall
          have HX := Lib.hid (And.intro ((Box.new w9 26 #[.int .i64 (intV m).kind, .bool (intV m).yes, .int .i64 (intV m).num, .string (intV m).text, .slice xa (intV m).list.length xc, .slice xb (intV m).fields.length xd]).alloc (.cells #[.int .i64 2, .slice (some ⟨w5.heap.size + 1, 0, none⟩) 1 1, .int .i64 0, .bool false, .int .i64 0, .string ⟨#[]⟩, .slice none 0 0, .slice none 0 0] 50)) (And.intro (hxat.below hA11) (hst9.below hA11)))
          clear y0 y1 y2 y3 y4 y5 hyl
          obtain ⟨⟨y0, y1, y2, y3, y4, y5⟩, _⟩ := hbx9.six
          have hyl := hbx9.lt
          clear hcall hops hbo hA10 hA11 hst9 hbx9 hb9 hxat hbx hyat hst HC1 HGET
          go_wp2_with fail
          refine HCALL.out.mono ?_
          rintro e w11 ⟨hb11, za, zc, zb, zd, rfl, hzat⟩
          have hA12 : Below w11.heap.size w11 (w11.alloc (.cells #[.int .i64 z.kind, .bool z.yes, .int .i64 z.num, .string z.text, .slice za z.list.length zc, .slice zb z.fields.length zd] 26)).drew := ((Below.refl _ w11).alloc (Nat.le_refl _) _).drew
          have HK2 : Hid (∀ W, Below (w11.alloc (.cells #[.int .i64 z.kind, .bool z.yes, .int .i64 z.num, .string z.text, .slice za z.list.length zc, .slice zb z.fields.length zd] 26)).drew.heap.size (w11.alloc (.cells #[.int .i64 z.kind, .bool z.yes, .int .i64 z.num, .string z.text, .slice za z.list.length zc, .slice zb z.fields.length zd] 26)).drew W → Box W w9.heap.size 26 #[.int .i64 (intV m).kind, .bool (intV m).yes, .int .i64 (intV m).num, .string (intV m).text, .slice xa (intV m).list.length xc, .slice xb (intV m).fields.length xd] ∧ Box W w11.heap.size 26 #[.int .i64 z.kind, .bool z.yes, .int .i64 z.num, .string z.text, .slice za z.list.length zc, .slice zb z.fields.length zd] ∧ (intV m).Is W (.slice xa (intV m).list.length xc) (.slice xb (intV m).fields.length xd) ∧ z.Is W (.slice za z.list.length zc) (.slice zb z.fields.length zd) ∧ ST w u ua uc ub ud (w5.heap.size + 1) nm W) := Lib.hid fun W hW => by
            have h2 := hb11.trans ((hA12.trans (hW.mono hA12.size)).mono hb11.size)
            exact ⟨(h2.block _ HX.out.1.lt).trans HX.out.1, (hW.block _ (show w11.heap.size < (w11.alloc (.cells #[.int .i64 z.kind, .bool z.yes, .int .i64 z.num, .string z.text, .slice za z.list.length zc, .slice zb z.fields.length zd] 26)).heap.size by simp)).trans (Box.new w11 _ _), HX.out.2.1.below h2, (hzat.is.below hA12).below hW, HX.out.2.2.below h2⟩
          have HT2 := Lib.hid HY.out.2.2.2.2.2.2
          have hx11 : Box w11 w9.heap.size 26 #[.int .i64 (intV m).kind, .bool (intV m).yes, .int .i64 (intV m).num, .string (intV m).text, .slice xa (intV m).list.length xc, .slice xb (intV m).fields.length xd] := (hb11.block _ HX.out.1.lt).trans HX.out.1
          have hu11 := (HX.out.2.2.below hb11).2.1
          obtain ⟨⟨a0, a1, a2, a3, a4, a5⟩, _⟩ := hx11.six
          have hal := hx11.lt
          obtain ⟨⟨b0, b1, b2, b3, b4, b5⟩, _⟩ := hu11.six
          have hbl := hu11.lt
          have HX11 := Lib.hid hx11
          clear hx11 hu11
          clear y0 y1 y2 y3 y4 y5 hyl hA12 hb11 hzat HX HCALL HY
          obtain ⟨e1, e2, e3, e4, e5⟩ := HK2.out (w11.alloc (.cells #[.int .i64 z.kind, .bool z.yes, .int .i64 z.num, .string z.text, .slice za z.list.length zc, .slice zb z.fields.length zd] 26)).drew (Below.refl _ _)
          obtain ⟨⟨x0, x1, x2, x3, x4, x5⟩, _⟩ := e1.six; obtain ⟨⟨c0, c1, c2, c3, c4, c5⟩, _⟩ := e2.six; obtain ⟨⟨d0, d1, d2, d3, d4, d5⟩, _⟩ := e5.2.1.six
          have hS12 : (w11.alloc (.cells #[.int .i64 z.kind, .bool z.yes, .int .i64 z.num, .string z.text, .slice za z.list.length zc, .slice zb z.fields.length zd] 26)).drew.cell? ⟨w9.heap.size, 0, none⟩ = some (.int .i64 (intV m).kind) ∧ (w11.alloc (.cells #[.int .i64 z.kind, .bool z.yes, .int .i64 z.num, .string z.text, .slice za z.list.length zc, .slice zb z.fields.length zd] 26)).drew.cell? ⟨w9.heap.size, 1, none⟩ = some (.bool (intV m).yes) ∧ (w11.alloc (.cells #[.int .i64 z.kind, .bool z.yes, .int .i64 z.num, .string z.text, .slice za z.list.length zc, .slice zb z.fields.length zd] 26)).drew.cell? ⟨w9.heap.size, 2, none⟩ = some (.int .i64 (intV m).num) ∧ (w11.alloc (.cells #[.int .i64 z.kind, .bool z.yes, .int .i64 z.num, .string z.text, .slice za z.list.length zc, .slice zb z.fields.length zd] 26)).drew.cell? ⟨w9.heap.size, 3, none⟩ = some (.string (intV m).text) ∧ (w11.alloc (.cells #[.int .i64 z.kind, .bool z.yes, .int .i64 z.num, .string z.text, .slice za z.list.length zc, .slice zb z.fields.length zd] 26)).drew.cell? ⟨w9.heap.size, 4, none⟩ = some (.slice xa (intV m).list.length xc) ∧ (w11.alloc (.cells #[.int .i64 z.kind, .bool z.yes, .int .i64 z.num, .string z.text, .slice za z.list.length zc, .slice zb z.fields.length zd] 26)).drew.cell? ⟨w9.heap.size, 5, none⟩ = some (.slice xb (intV m).fields.length xd) ∧ (w11.alloc (.cells #[.int .i64 z.kind, .bool z.yes, .int .i64 z.num, .string z.text, .slice za z.list.length zc, .slice zb z.fields.length zd] 26)).drew.cell? ⟨w11.heap.size, 0, none⟩ = some (.int .i64 z.kind) ∧ (w11.alloc (.cells #[.int .i64 z.kind, .bool z.yes, .int .i64 z.num, .string z.text, .slice za z.list.length zc, .slice zb z.fields.length zd] 26)).drew.cell? ⟨w11.heap.size, 1, none⟩ = some (.bool z.yes) ∧ (w11.alloc (.cells #[.int .i64 z.kind, .bool z.yes, .int .i64 z.num, .string z.text, .slice za z.list.length zc, .slice zb z.fields.length zd] 26)).drew.cell? ⟨w11.heap.size, 2, none⟩ = some (.int .i64 z.num) ∧ (w11.alloc (.cells #[.int .i64 z.kind, .bool z.yes, .int .i64 z.num, .string z.text, .slice za z.list.length zc, .slice zb z.fields.length zd] 26)).drew.cell? ⟨w11.heap.size, 3, none⟩ = some (.string z.text) ∧ (w11.alloc (.cells #[.int .i64 z.kind, .bool z.yes, .int .i64 z.num, .string z.text, .slice za z.list.length zc, .slice zb z.fields.length zd] 26)).drew.cell? ⟨w11.heap.size, 4, none⟩ = some (.slice za z.list.length zc) ∧ (w11.alloc (.cells #[.int .i64 z.kind, .bool z.yes, .int .i64 z.num, .string z.text, .slice za z.list.length zc, .slice zb z.fields.length zd] 26)).drew.cell? ⟨w11.heap.size, 5, none⟩ = some (.slice zb z.fields.length zd) ∧ (w11.alloc (.cells #[.int .i64 z.kind, .bool z.yes, .int .i64 z.num, .string z.text, .slice za z.list.length zc, .slice zb z.fields.length zd] 26)).drew.cell? ⟨w.heap.size, 0, none⟩ = some (.int .i64 u.kind) ∧ (w11.alloc (.cells #[.int .i64 z.kind, .bool z.yes, .int .i64 z.num, .string z.text, .slice za z.list.length zc, .slice zb z.fields.length zd] 26)).drew.cell? ⟨w.heap.size, 1, none⟩ = some (.bool u.yes) ∧ (w11.alloc (.cells #[.int .i64 z.kind, .bool z.yes, .int .i64 z.num, .string z.text, .slice za z.list.length zc, .slice zb z.fields.length zd] 26)).drew.cell? ⟨w.heap.size, 2, none⟩ = some (.int .i64 u.num) ∧ (w11.alloc (.cells #[.int .i64 z.kind, .bool z.yes, .int .i64 z.num, .string z.text, .slice za z.list.length zc, .slice zb z.fields.length zd] 26)).drew.cell? ⟨w.heap.size, 3, none⟩ = some (.string u.text) ∧ (w11.alloc (.cells #[.int .i64 z.kind, .bool z.yes, .int .i64 z.num, .string z.text, .slice za z.list.length zc, .slice zb z.fields.length zd] 26)).drew.cell? ⟨w.heap.size, 4, none⟩ = some (.slice ua u.list.length uc) ∧ (w11.alloc (.cells #[.int .i64 z.kind, .bool z.yes, .int .i64 z.num, .string z.text, .slice za z.list.length zc, .slice zb z.fields.length zd] 26)).drew.cell? ⟨w.heap.size, 5, none⟩ = some (.slice ub u.fields.length ud) := ⟨x0, x1, x2, x3, x4, x5, c0, c1, c2, c3, c4, c5, d0, d1, d2, d3, d4, d5⟩; clear x0 x1 x2 x3 x4 x5 c0 c1 c2 c3 c4 c5 d0 d1 d2 d3 d4 d5
          clear e1 e2 e3 e4 e5 a0 a1 a2 a3 a4 a5 b0 b1 b2 b3 b4 b5 hal hbl
          cases t with
          | false =>
            obtain rfl : z = u := HT2.out rfl
            have HK3 : Hid (∀ w14 w15, Below (w11.alloc (.cells #[.int .i64 z.kind, .bool z.yes, .int .i64 z.num, .string z.text, .slice za z.list.length zc, .slice zb z.fields.length zd] 26)).drew.heap.size (w11.alloc (.cells #[.int .i64 z.kind, .bool z.yes, .int .i64 z.num, .string z.text, .slice za z.list.length zc, .slice zb z.fields.length zd] 26)).drew w14 → Below w14.heap.size w14 w15 → _) := Lib.hid fun w14 w15 h1 h2 => HK2.out w15 (h1.trans (h2.mono h1.size))
            go_wp2_with fail
            go_region_held3 (fun w' => w'.cell? ⟨w9.heap.size, 0, none⟩ = some (.int .i64 (intV m).kind) ∧ w'.cell? ⟨w9.heap.size, 1, none⟩ = some (.bool (intV m).yes) ∧ w'.cell? ⟨w9.heap.size, 2, none⟩ = some (.int .i64 (intV m).num) ∧ w'.cell? ⟨w9.heap.size, 3, none⟩ = some (.string (intV m).text) ∧ w'.cell? ⟨w9.heap.size, 4, none⟩ = some (.slice xa (intV m).list.length xc) ∧ w'.cell? ⟨w9.heap.size, 5, none⟩ = some (.slice xb (intV m).fields.length xd) ∧ w'.cell? ⟨w11.heap.size, 0, none⟩ = some (.int .i64 z.kind) ∧ w'.cell? ⟨w11.heap.size, 1, none⟩ = some (.bool z.yes) ∧ w'.cell? ⟨w11.heap.size, 2, none⟩ = some (.int .i64 z.num) ∧ w'.cell? ⟨w11.heap.size, 3, none⟩ = some (.string z.text) ∧ w'.cell? ⟨w11.heap.size, 4, none⟩ = some (.slice za z.list.length zc) ∧ w'.cell? ⟨w11.heap.size, 5, none⟩ = some (.slice zb z.fields.length zd) ∧ w'.cell? ⟨w.heap.size, 0, none⟩ = some (.int .i64 z.kind) ∧ w'.cell? ⟨w.heap.size, 1, none⟩ = some (.bool z.yes) ∧ w'.cell? ⟨w.heap.size, 2, none⟩ = some (.int .i64 z.num) ∧ w'.cell? ⟨w.heap.size, 3, none⟩ = some (.string z.text) ∧ w'.cell? ⟨w.heap.size, 4, none⟩ = some (.slice ua z.list.length uc) ∧ w'.cell? ⟨w.heap.size, 5, none⟩ = some (.slice ub z.fields.length ud)) (first | exact hS12 | exact hS13 | exact hS14 | exact hS15)
              (first
                | (go_at_call 31
                   refine (ofInt_any _ _).mono ?_
                   rintro e w13 ⟨rfl, hb13⟩
                   obtain ⟨e1, e2, e3, e4, e5⟩ := HK2.out w13 hb13
                   have hs1 := same_any (intV m) (intV m) _ _ (.slice none 0 0) (.slice none 0 0) w13 e3 (intV_is m w13 All)
                   rw [cmp_self] at hs1
                   have HSA1 := Lib.hid hs1
                   have HB13 := Lib.hid hb13
                   obtain ⟨⟨x0, x1, x2, x3, x4, x5⟩, _⟩ := e1.six; obtain ⟨⟨c0, c1, c2, c3, c4, c5⟩, _⟩ := e2.six; obtain ⟨⟨d0, d1, d2, d3, d4, d5⟩, _⟩ := e5.2.1.six
                   have hS13 : w13.cell? ⟨w9.heap.size, 0, none⟩ = some (.int .i64 (intV m).kind) ∧ w13.cell? ⟨w9.heap.size, 1, none⟩ = some (.bool (intV m).yes) ∧ w13.cell? ⟨w9.heap.size, 2, none⟩ = some (.int .i64 (intV m).num) ∧ w13.cell? ⟨w9.heap.size, 3, none⟩ = some (.string (intV m).text) ∧ w13.cell? ⟨w9.heap.size, 4, none⟩ = some (.slice xa (intV m).list.length xc) ∧ w13.cell? ⟨w9.heap.size, 5, none⟩ = some (.slice xb (intV m).fields.length xd) ∧ w13.cell? ⟨w11.heap.size, 0, none⟩ = some (.int .i64 z.kind) ∧ w13.cell? ⟨w11.heap.size, 1, none⟩ = some (.bool z.yes) ∧ w13.cell? ⟨w11.heap.size, 2, none⟩ = some (.int .i64 z.num) ∧ w13.cell? ⟨w11.heap.size, 3, none⟩ = some (.string z.text) ∧ w13.cell? ⟨w11.heap.size, 4, none⟩ = some (.slice za z.list.length zc) ∧ w13.cell? ⟨w11.heap.size, 5, none⟩ = some (.slice zb z.fields.length zd) ∧ w13.cell? ⟨w.heap.size, 0, none⟩ = some (.int .i64 z.kind) ∧ w13.cell? ⟨w.heap.size, 1, none⟩ = some (.bool z.yes) ∧ w13.cell? ⟨w.heap.size, 2, none⟩ = some (.int .i64 z.num) ∧ w13.cell? ⟨w.heap.size, 3, none⟩ = some (.string z.text) ∧ w13.cell? ⟨w.heap.size, 4, none⟩ = some (.slice ua z.list.length uc) ∧ w13.cell? ⟨w.heap.size, 5, none⟩ = some (.slice ub z.fields.length ud) := ⟨x0, x1, x2, x3, x4, x5, c0, c1, c2, c3, c4, c5, d0, d1, d2, d3, d4, d5⟩; clear x0 x1 x2 x3 x4 x5 c0 c1 c2 c3 c4 c5 d0 d1 d2 d3 d4 d5
                   clear hb13 hs1 e1 e2 e3 e4 e5)
                | (go_at_call 26
                   refine HSA1.out.mono ?_
                   rintro e w14 ⟨rfl, hb14⟩
                   obtain ⟨e1, e2, e3, e4, e5⟩ := HK2.out w14 (HB13.out.trans (hb14.mono HB13.out.size))
                   have hs2 := same_any z z _ _ _ _ w14 e4 e5.2.2.1
                   rw [cmp_self] at hs2
                   have HSA2 := Lib.hid hs2
                   clear hs2
                   have HB14 := Lib.hid e5.1
                   obtain ⟨⟨x0, x1, x2, x3, x4, x5⟩, _⟩ := e1.six; obtain ⟨⟨c0, c1, c2, c3, c4, c5⟩, _⟩ := e2.six; obtain ⟨⟨d0, d1, d2, d3, d4, d5⟩, _⟩ := e5.2.1.six
                   have hS14 : w14.cell? ⟨w9.heap.size, 0, none⟩ = some (.int .i64 (intV m).kind) ∧ w14.cell? ⟨w9.heap.size, 1, none⟩ = some (.bool (intV m).yes) ∧ w14.cell? ⟨w9.heap.size, 2, none⟩ = some (.int .i64 (intV m).num) ∧ w14.cell? ⟨w9.heap.size, 3, none⟩ = some (.string (intV m).text) ∧ w14.cell? ⟨w9.heap.size, 4, none⟩ = some (.slice xa (intV m).list.length xc) ∧ w14.cell? ⟨w9.heap.size, 5, none⟩ = some (.slice xb (intV m).fields.length xd) ∧ w14.cell? ⟨w11.heap.size, 0, none⟩ = some (.int .i64 z.kind) ∧ w14.cell? ⟨w11.heap.size, 1, none⟩ = some (.bool z.yes) ∧ w14.cell? ⟨w11.heap.size, 2, none⟩ = some (.int .i64 z.num) ∧ w14.cell? ⟨w11.heap.size, 3, none⟩ = some (.string z.text) ∧ w14.cell? ⟨w11.heap.size, 4, none⟩ = some (.slice za z.list.length zc) ∧ w14.cell? ⟨w11.heap.size, 5, none⟩ = some (.slice zb z.fields.length zd) ∧ w14.cell? ⟨w.heap.size, 0, none⟩ = some (.int .i64 z.kind) ∧ w14.cell? ⟨w.heap.size, 1, none⟩ = some (.bool z.yes) ∧ w14.cell? ⟨w.heap.size, 2, none⟩ = some (.int .i64 z.num) ∧ w14.cell? ⟨w.heap.size, 3, none⟩ = some (.string z.text) ∧ w14.cell? ⟨w.heap.size, 4, none⟩ = some (.slice ua z.list.length uc) ∧ w14.cell? ⟨w.heap.size, 5, none⟩ = some (.slice ub z.fields.length ud) := ⟨x0, x1, x2, x3, x4, x5, c0, c1, c2, c3, c4, c5, d0, d1, d2, d3, d4, d5⟩; clear x0 x1 x2 x3 x4 x5 c0 c1 c2 c3 c4 c5 d0 d1 d2 d3 d4 d5; have HK14 := Lib.hid (HB13.out.trans (hb14.mono HB13.out.size))
                   clear hb14 e1 e2 e3 e4 e5)
                | (go_at_call 26
                   refine HSA2.out.mono ?_
                   rintro e w15 ⟨rfl, hb15⟩
                   have HB15 := Lib.hid (HB14.out.trans (hb15.mono HB14.out.size))
                   obtain ⟨e1, e2, e3, e4, e5⟩ := HK3.out w14 w15 HK14.out hb15
                   obtain ⟨⟨x0, x1, x2, x3, x4, x5⟩, _⟩ := e1.six; obtain ⟨⟨c0, c1, c2, c3, c4, c5⟩, _⟩ := e2.six; obtain ⟨⟨d0, d1, d2, d3, d4, d5⟩, _⟩ := e5.2.1.six
                   have hS15 : w15.cell? ⟨w9.heap.size, 0, none⟩ = some (.int .i64 (intV m).kind) ∧ w15.cell? ⟨w9.heap.size, 1, none⟩ = some (.bool (intV m).yes) ∧ w15.cell? ⟨w9.heap.size, 2, none⟩ = some (.int .i64 (intV m).num) ∧ w15.cell? ⟨w9.heap.size, 3, none⟩ = some (.string (intV m).text) ∧ w15.cell? ⟨w9.heap.size, 4, none⟩ = some (.slice xa (intV m).list.length xc) ∧ w15.cell? ⟨w9.heap.size, 5, none⟩ = some (.slice xb (intV m).fields.length xd) ∧ w15.cell? ⟨w11.heap.size, 0, none⟩ = some (.int .i64 z.kind) ∧ w15.cell? ⟨w11.heap.size, 1, none⟩ = some (.bool z.yes) ∧ w15.cell? ⟨w11.heap.size, 2, none⟩ = some (.int .i64 z.num) ∧ w15.cell? ⟨w11.heap.size, 3, none⟩ = some (.string z.text) ∧ w15.cell? ⟨w11.heap.size, 4, none⟩ = some (.slice za z.list.length zc) ∧ w15.cell? ⟨w11.heap.size, 5, none⟩ = some (.slice zb z.fields.length zd) ∧ w15.cell? ⟨w.heap.size, 0, none⟩ = some (.int .i64 z.kind) ∧ w15.cell? ⟨w.heap.size, 1, none⟩ = some (.bool z.yes) ∧ w15.cell? ⟨w.heap.size, 2, none⟩ = some (.int .i64 z.num) ∧ w15.cell? ⟨w.heap.size, 3, none⟩ = some (.string z.text) ∧ w15.cell? ⟨w.heap.size, 4, none⟩ = some (.slice ua z.list.length uc) ∧ w15.cell? ⟨w.heap.size, 5, none⟩ = some (.slice ub z.fields.length ud) := ⟨x0, x1, x2, x3, x4, x5, c0, c1, c2, c3, c4, c5, d0, d1, d2, d3, d4, d5⟩; clear x0 x1 x2 x3 x4 x5 c0 c1 c2 c3 c4 c5 d0 d1 d2 d3 d4 d5
                   clear hb15 e1 e2 e3 e4 e5))
            go_wp2
            go_ret
            exact ⟨rfl, HB15.out⟩
          | true =>
            have HK5 := Lib.hid hS12
            have hx11 := (HK2.out (w11.alloc (.cells #[.int .i64 z.kind, .bool z.yes, .int .i64 z.num, .string z.text, .slice za z.list.length zc, .slice zb z.fields.length zd] 26)).drew (Below.refl _ _)).1
            obtain ⟨⟨a0, a1, a2, a3, a4, a5⟩, _⟩ := hx11.six
            have hS11 : (w11.alloc (.cells #[.int .i64 z.kind, .bool z.yes, .int .i64 z.num, .string z.text, .slice za z.list.length zc, .slice zb z.fields.length zd] 26)).drew.cell? ⟨w9.heap.size, 0, none⟩ = some (.int .i64 (intV m).kind) ∧ (w11.alloc (.cells #[.int .i64 z.kind, .bool z.yes, .int .i64 z.num, .string z.text, .slice za z.list.length zc, .slice zb z.fields.length zd] 26)).drew.cell? ⟨w9.heap.size, 1, none⟩ = some (.bool (intV m).yes) ∧ (w11.alloc (.cells #[.int .i64 z.kind, .bool z.yes, .int .i64 z.num, .string z.text, .slice za z.list.length zc, .slice zb z.fields.length zd] 26)).drew.cell? ⟨w9.heap.size, 2, none⟩ = some (.int .i64 (intV m).num) ∧ (w11.alloc (.cells #[.int .i64 z.kind, .bool z.yes, .int .i64 z.num, .string z.text, .slice za z.list.length zc, .slice zb z.fields.length zd] 26)).drew.cell? ⟨w9.heap.size, 3, none⟩ = some (.string (intV m).text) ∧ (w11.alloc (.cells #[.int .i64 z.kind, .bool z.yes, .int .i64 z.num, .string z.text, .slice za z.list.length zc, .slice zb z.fields.length zd] 26)).drew.cell? ⟨w9.heap.size, 4, none⟩ = some (.slice xa (intV m).list.length xc) ∧ (w11.alloc (.cells #[.int .i64 z.kind, .bool z.yes, .int .i64 z.num, .string z.text, .slice za z.list.length zc, .slice zb z.fields.length zd] 26)).drew.cell? ⟨w9.heap.size, 5, none⟩ = some (.slice xb (intV m).fields.length xd) := ⟨a0, a1, a2, a3, a4, a5⟩
            clear a0 a1 a2 a3 a4 a5 hS12 hx11
            have HSA : ∀ w13, Below (w11.alloc (.cells #[.int .i64 z.kind, .bool z.yes, .int .i64 z.num, .string z.text, .slice za z.list.length zc, .slice zb z.fields.length zd] 26)).drew.heap.size (w11.alloc (.cells #[.int .i64 z.kind, .bool z.yes, .int .i64 z.num, .string z.text, .slice za z.list.length zc, .slice zb z.fields.length zd] 26)).drew w13 → Calls Try.prog 26 #[.agg #[.int .i64 (intV m).kind, .bool (intV m).yes, .int .i64 (intV m).num, .string (intV m).text, .slice xa (intV m).list.length xc, .slice xb (intV m).fields.length xd], .agg #[.int .i64 2, .bool false, .int .i64 m, .string ⟨#[]⟩, .slice none 0 0, .slice none 0 0]] w13 (fun e w' => e = .returned (.bool ((0:Int) == 0)) ∧ Below w13.heap.size w13 w') := by
              intro w13 hb13
              obtain ⟨e1, e2, e3, e4, e5⟩ := HK2.out w13 hb13
              have hs1 := same_any (intV m) (intV m) _ _ (.slice none 0 0) (.slice none 0 0) w13 e3 (intV_is m w13 All)
              rw [cmp_self] at hs1
              exact hs1
            have HSB := Lib.hid HSA
            clear HSA
            have HFX : ∀ w13 w14, Below (w11.alloc (.cells #[.int .i64 z.kind, .bool z.yes, .int .i64 z.num, .string z.text, .slice za z.list.length zc, .slice zb z.fields.length zd] 26)).drew.heap.size (w11.alloc (.cells #[.int .i64 z.kind, .bool z.yes, .int .i64 z.num, .string z.text, .slice za z.list.length zc, .slice zb z.fields.length zd] 26)).drew w13 → Below w13.heap.size w13 w14 → _ := fun w13 w14 hb13 hb14 => (HK2.out w14 (hb13.trans (hb14.mono hb13.size))).2.2.2.2.1
            have HFY := Lib.hid HFX
            clear HFX
            go_wp2_with fail
            refine wp_region_held_drew (S := fun w' => w'.cell? ⟨w9.heap.size, 0, none⟩ = some (.int .i64 (intV m).kind) ∧ w'.cell? ⟨w9.heap.size, 1, none⟩ = some (.bool (intV m).yes) ∧ w'.cell? ⟨w9.heap.size, 2, none⟩ = some (.int .i64 (intV m).num) ∧ w'.cell? ⟨w9.heap.size, 3, none⟩ = some (.string (intV m).text) ∧ w'.cell? ⟨w9.heap.size, 4, none⟩ = some (.slice xa (intV m).list.length xc) ∧ w'.cell? ⟨w9.heap.size, 5, none⟩ = some (.slice xb (intV m).fields.length xd)) (by kernel_rfl) (by with_reducible exact hS11) (fun hHeld => ?_)
            refine wpAnyH_take (i := 0) (oi := _) (v := ?_) rfl (by kernel_rfl) (by kernel_rfl) (by kernel_rfl) (fun _ _ _ h => h) (Or.inl ⟨by rfl, ?_⟩) (by assumption) ?_
            rotate_left
            · (intro w' hSw; (try dsimp only at hSw); go_simp; all_goals with_reducible rfl)
            try simp only [Act.put, List.getElem_toArray, List.getElem_cons_zero, List.setIfInBounds_toArray, List.set_cons_zero, List.set_cons_succ]
            refine wpAnyH_take (i := 1) (oi := _) (v := ?_) rfl (by kernel_rfl) (by kernel_rfl) (by kernel_rfl) (fun _ _ _ h => h) (Or.inl ⟨by rfl, ?_⟩) (by assumption) ?_
            rotate_left
            · (intro w' hSw; (try dsimp only at hSw); go_simp; all_goals with_reducible rfl)
            try simp only [Act.put, List.getElem_toArray, List.getElem_cons_zero, List.getElem_cons_succ, List.setIfInBounds_toArray, List.set_cons_zero, List.set_cons_succ]
            refine wpAnyH_take (i := 2) (oi := _) (v := ?_) rfl (by kernel_rfl) (by kernel_rfl) (by kernel_rfl) (fun _ _ _ h => h) (Or.inl ⟨by rfl, ?_⟩) (by assumption) ?_
            rotate_left
            · (intro w' hSw; (try dsimp only at hSw); go_simp; all_goals with_reducible rfl)
            try simp only [Act.put, List.getElem_toArray, List.getElem_cons_zero, List.getElem_cons_succ, List.setIfInBounds_toArray, List.set_cons_zero, List.set_cons_succ]
            refine wpAnyH_take (i := 3) (oi := _) (v := ?_) rfl (by kernel_rfl) (by kernel_rfl) (by kernel_rfl) (fun _ _ _ h => h) (Or.inl ⟨by rfl, ?_⟩) (by assumption) ?_
            rotate_left
            · (intro w' hSw; (try dsimp only at hSw); go_simp; all_goals with_reducible rfl)
            try simp only [Act.put, List.getElem_toArray, List.getElem_cons_zero, List.getElem_cons_succ, List.setIfInBounds_toArray, List.set_cons_zero, List.set_cons_succ]
            refine wpAnyH_ready (rs := [4]) (by kernel_rfl) (by simp) ?_
            refine AllReadyH.cons rfl (fun K hK => ?_) AllReadyH.nil
            go_simp
            go_at_call 31
            with_reducible refine (ofInt_any _ _).mono ?_
            rintro e w13 ⟨rfl, hb13⟩
            obtain ⟨e1, _⟩ := HK2.out w13 hb13
            have HSA1 := Lib.hid (HSB.out w13 hb13)
            have HB13 := Lib.hid hb13
            obtain ⟨⟨x0, x1, x2, x3, x4, x5⟩, _⟩ := e1.six
            have hS13 : w13.cell? ⟨w9.heap.size, 0, none⟩ = some (.int .i64 (intV m).kind) ∧ w13.cell? ⟨w9.heap.size, 1, none⟩ = some (.bool (intV m).yes) ∧ w13.cell? ⟨w9.heap.size, 2, none⟩ = some (.int .i64 (intV m).num) ∧ w13.cell? ⟨w9.heap.size, 3, none⟩ = some (.string (intV m).text) ∧ w13.cell? ⟨w9.heap.size, 4, none⟩ = some (.slice xa (intV m).list.length xc) ∧ w13.cell? ⟨w9.heap.size, 5, none⟩ = some (.slice xb (intV m).fields.length xd) := ⟨x0, x1, x2, x3, x4, x5⟩
            clear x0 x1 x2 x3 x4 x5 hb13 e1
            refine hK.out _ _ (by with_reducible exact hS13) (fun hHeld => ?_)
            clear hK K
            try simp only [Act.put, List.getElem_toArray, List.getElem_cons_zero, List.getElem_cons_succ, List.setIfInBounds_toArray, List.set_cons_zero, List.set_cons_succ]
            refine wpAnyH_ready (rs := [5]) (by kernel_rfl) (by simp) ?_
            refine AllReadyH.cons rfl (fun K hK => ?_) AllReadyH.nil
            go_simp
            go_at_call 26
            have hs9 := HSA1.out
            with_reducible refine hs9.mono ?_
            rintro e w14 ⟨rfl, hb14⟩
            have HF := Lib.hid (HFY.out _ _ HB13.out hb14)
            obtain ⟨e1, _⟩ := HK2.out w14 (HB13.out.trans (hb14.mono HB13.out.size))
            obtain ⟨⟨x0, x1, x2, x3, x4, x5⟩, _⟩ := e1.six
            have hS14 : w14.cell? ⟨w9.heap.size, 0, none⟩ = some (.int .i64 (intV m).kind) ∧ w14.cell? ⟨w9.heap.size, 1, none⟩ = some (.bool (intV m).yes) ∧ w14.cell? ⟨w9.heap.size, 2, none⟩ = some (.int .i64 (intV m).num) ∧ w14.cell? ⟨w9.heap.size, 3, none⟩ = some (.string (intV m).text) ∧ w14.cell? ⟨w9.heap.size, 4, none⟩ = some (.slice xa (intV m).list.length xc) ∧ w14.cell? ⟨w9.heap.size, 5, none⟩ = some (.slice xb (intV m).fields.length xd) := ⟨x0, x1, x2, x3, x4, x5⟩
            clear x0 x1 x2 x3 x4 x5 hs9 hb14 e1
            refine hK.out _ _ (by with_reducible exact hS14) (fun hHeld => ?_)
            clear hK K
            try simp only [Act.put, List.getElem_toArray, List.getElem_cons_zero, List.getElem_cons_succ, List.setIfInBounds_toArray, List.set_cons_zero, List.set_cons_succ]
            refine wpAnyH_take (i := 6) (oi := _) (v := ?_) rfl (by kernel_rfl) (by kernel_rfl) (by kernel_rfl) (fun _ _ _ h => h) (Or.inl ⟨by rfl, ?_⟩) (by assumption) ?_
            rotate_left
            · (intro w' hSw; (try dsimp only at hSw); go_simp; all_goals with_reducible rfl)
            try simp only [Act.put, List.getElem_toArray, List.getElem_cons_zero, List.getElem_cons_succ, List.setIfInBounds_toArray, List.set_cons_zero, List.set_cons_succ]
            refine wpAnyH_take (i := 7) (oi := _) (v := ?_) rfl (by kernel_rfl) (by kernel_rfl) (by kernel_rfl) (fun _ _ _ h => h) (Or.inl ⟨by rfl, ?_⟩) (by assumption) ?_
            rotate_left
            · (intro w' hSw; (try dsimp only at hSw); go_simp; all_goals with_reducible rfl)
            try simp only [Act.put, List.getElem_toArray, List.getElem_cons_zero, List.getElem_cons_succ, List.setIfInBounds_toArray, List.set_cons_zero, List.set_cons_succ]
            refine wpAnyH_take (i := 8) (oi := _) (v := ?_) rfl (by kernel_rfl) (by kernel_rfl) (by kernel_rfl) (fun _ _ _ h => h) (Or.inl ⟨by rfl, ?_⟩) (by assumption) ?_
            rotate_left
            · (intro w' hSw; (try dsimp only at hSw); go_simp; all_goals with_reducible rfl)
            try simp only [Act.put, List.getElem_toArray, List.getElem_cons_zero, List.getElem_cons_succ, List.setIfInBounds_toArray, List.set_cons_zero, List.set_cons_succ]
            refine wpAnyH_take (i := 9) (oi := _) (v := ?_) rfl (by kernel_rfl) (by kernel_rfl) (by kernel_rfl) (fun _ _ _ h => h) (Or.inl ⟨by rfl, ?_⟩) (by assumption) ?_
            rotate_left
            · (intro w' hSw; (try dsimp only at hSw); go_simp; all_goals with_reducible rfl)
            try simp only [Act.put, List.getElem_toArray, List.getElem_cons_zero, List.getElem_cons_succ, List.setIfInBounds_toArray, List.set_cons_zero, List.set_cons_succ]
            refine wpAnyH_take (i := 10) (oi := _) (v := ?_) rfl (by kernel_rfl) (by kernel_rfl) (by kernel_rfl) (fun _ _ _ h => h) (Or.inl ⟨by rfl, ?_⟩) (by assumption) ?_
            rotate_left
            · (intro w' hSw; (try dsimp only at hSw); go_simp; all_goals with_reducible rfl)
            try simp only [Act.put, List.getElem_toArray, List.getElem_cons_zero, List.getElem_cons_succ, List.setIfInBounds_toArray, List.set_cons_zero, List.set_cons_succ]
            refine wpAnyH_take (i := 11) (oi := _) (v := ?_) rfl (by kernel_rfl) (by kernel_rfl) (by kernel_rfl) (fun _ _ _ h => h) (Or.inl ⟨by rfl, ?_⟩) (by assumption) ?_
            rotate_left
            · (intro w' hSw; (try dsimp only at hSw); go_simp; all_goals with_reducible rfl)
            try simp only [Act.put, List.getElem_toArray, List.getElem_cons_zero, List.getElem_cons_succ, List.setIfInBounds_toArray, List.set_cons_zero, List.set_cons_succ]
            refine wpAnyH_take (i := 12) (oi := _) (v := ?_) rfl (by kernel_rfl) (by kernel_rfl) (by kernel_rfl) (fun _ _ _ h => h) (Or.inl ⟨by rfl, ?_⟩) (by assumption) ?_
            rotate_left
            · (intro w' hSw; (try dsimp only at hSw); go_simp; all_goals with_reducible rfl)
            try simp only [Act.put, List.getElem_toArray, List.getElem_cons_zero, List.getElem_cons_succ, List.setIfInBounds_toArray, List.set_cons_zero, List.set_cons_succ]
            refine wpAnyH_take (i := 13) (oi := _) (v := ?_) rfl (by kernel_rfl) (by kernel_rfl) (by kernel_rfl) (fun _ _ _ h => h) (Or.inl ⟨by rfl, ?_⟩) (by assumption) ?_
            rotate_left
            · (intro w' hSw; (try dsimp only at hSw); go_simp; all_goals with_reducible rfl)
            try simp only [Act.put, List.getElem_toArray, List.getElem_cons_zero, List.getElem_cons_succ, List.setIfInBounds_toArray, List.set_cons_zero, List.set_cons_succ]
            refine wpAnyH_take (i := 14) (oi := _) (v := undef) rfl (by kernel_rfl) (by kernel_rfl) (by kernel_rfl) (fun _ _ _ h => h) (Or.inr ⟨by rfl, rfl⟩) (by assumption) ?_
            try simp only [Act.put, List.getElem_toArray, List.getElem_cons_zero, List.getElem_cons_succ, List.setIfInBounds_toArray, List.set_cons_zero, List.set_cons_succ]
            refine wpAnyH_take (i := 15) (oi := _) (v := undef) rfl (by kernel_rfl) (by kernel_rfl) (by kernel_rfl) (fun _ _ _ h => h) (Or.inr ⟨by rfl, rfl⟩) (by assumption) ?_
            try simp only [Act.put, List.getElem_toArray, List.getElem_cons_zero, List.getElem_cons_succ, List.setIfInBounds_toArray, List.set_cons_zero, List.set_cons_succ]
            refine wpAnyH_take (i := 16) (oi := _) (v := undef) rfl (by kernel_rfl) (by kernel_rfl) (by kernel_rfl) (fun _ _ _ h => h) (Or.inr ⟨by rfl, rfl⟩) (by assumption) ?_
            try simp only [Act.put, List.getElem_toArray, List.getElem_cons_zero, List.getElem_cons_succ, List.setIfInBounds_toArray, List.set_cons_zero, List.set_cons_succ]
            refine wpAnyH_take (i := 17) (oi := _) (v := ?_) rfl (by kernel_rfl) (by kernel_rfl) (by kernel_rfl) (fun _ _ _ h => h) (Or.inl ⟨by rfl, ?_⟩) (by assumption) ?_
            rotate_left
            · (intro w' hSw; (try dsimp only at hSw); go_simp; all_goals with_reducible rfl)
            try simp only [Act.put, List.getElem_toArray, List.getElem_cons_zero, List.getElem_cons_succ, List.setIfInBounds_toArray, List.set_cons_zero, List.set_cons_succ]
            refine wpAnyH_take (i := 18) (oi := _) (v := ?_) rfl (by kernel_rfl) (by kernel_rfl) (by kernel_rfl) (fun _ _ _ h => h) (Or.inl ⟨by rfl, ?_⟩) (by assumption) ?_
            rotate_left
            · (intro w' hSw; (try dsimp only at hSw); go_simp; all_goals with_reducible rfl)
            try simp only [Act.put, List.getElem_toArray, List.getElem_cons_zero, List.getElem_cons_succ, List.setIfInBounds_toArray, List.set_cons_zero, List.set_cons_succ]
            refine wpAnyH_take (i := 19) (oi := _) (v := ?_) rfl (by kernel_rfl) (by kernel_rfl) (by kernel_rfl) (fun _ _ _ h => h) (Or.inl ⟨by rfl, ?_⟩) (by assumption) ?_
            rotate_left
            · (intro w' hSw; (try dsimp only at hSw); go_simp; all_goals with_reducible rfl)
            try simp only [Act.put, List.getElem_toArray, List.getElem_cons_zero, List.getElem_cons_succ, List.setIfInBounds_toArray, List.set_cons_zero, List.set_cons_succ]
            refine wpAnyH_done (by kernel_rfl) ?_ _
            go_wp2
            go_ret
            exact ⟨rfl, HF.out⟩
      · have g2 : (u.kind != 5) = true := by simp [hk]
        have hz5 : (sets w3 w.heap.size 0 [.int .i64 u.kind, .bool u.yes, .int .i64 u.num, .string u.text, .slice ua u.list.length uc, .slice ub u.fields.length ud]).heap.size = w3.heap.size := sets_size _ _ _
        have hA6 : Below (sets w3 w.heap.size 0 [.int .i64 u.kind, .bool u.yes, .int .i64 u.num, .string u.text, .slice ua u.list.length uc, .slice ub u.fields.length ud]).heap.size (sets w3 w.heap.size 0 [.int .i64 u.kind, .bool u.yes, .int .i64 u.num, .string u.text, .slice ua u.list.length uc, .slice ub u.fields.length ud]) ((sets w3 w.heap.size 0 [.int .i64 u.kind, .bool u.yes, .int .i64 u.num, .string u.text, .slice ua u.list.length uc, .slice ub u.fields.length ud]).alloc (.cells #[.string nm] 9)) := (Below.refl _ _).alloc (Nat.le_refl _) _
        have hA7 : Below (sets w3 w.heap.size 0 [.int .i64 u.kind, .bool u.yes, .int .i64 u.num, .string u.text, .slice ua u.list.length uc, .slice ub u.fields.length ud]).heap.size (sets w3 w.heap.size 0 [.int .i64 u.kind, .bool u.yes, .int .i64 u.num, .string u.text, .slice ua u.list.length uc, .slice ub u.fields.length ud]) (((sets w3 w.heap.size 0 [.int .i64 u.kind, .bool u.yes, .int .i64 u.num, .string u.text, .slice ua u.list.length uc, .slice ub u.fields.length ud]).alloc (.cells #[.string nm] 9)).alloc (.cells #[.int .i64 1, .slice (some ⟨w3.heap.size, 0, none⟩) 1 1, .int .i64 0, .bool false, .int .i64 0, .string ⟨#[]⟩, .slice none 0 0, .slice none 0 0] 50)) := hA6.alloc hA6.size _
        have hbs : Box (((sets w3 w.heap.size 0 [.int .i64 u.kind, .bool u.yes, .int .i64 u.num, .string u.text, .slice ua u.list.length uc, .slice ub u.fields.length ud]).alloc (.cells #[.string nm] 9)).alloc (.cells #[.int .i64 1, .slice (some ⟨w3.heap.size, 0, none⟩) 1 1, .int .i64 0, .bool false, .int .i64 0, .string ⟨#[]⟩, .slice none 0 0, .slice none 0 0] 50)) w3.heap.size 9 #[.string nm] := by
          have h1 := (Box.new (sets w3 w.heap.size 0 [.int .i64 u.kind, .bool u.yes, .int .i64 u.num, .string u.text, .slice ua u.list.length uc, .slice ub u.fields.length ud]) 9 #[.string nm]).alloc (.cells #[.int .i64 1, .slice (some ⟨w3.heap.size, 0, none⟩) 1 1, .int .i64 0, .bool false, .int .i64 0, .string ⟨#[]⟩, .slice none 0 0, .slice none 0 0] 50)
          rw [hz5] at h1
          exact h1
        have hbo : Box (((sets w3 w.heap.size 0 [.int .i64 u.kind, .bool u.yes, .int .i64 u.num, .string u.text, .slice ua u.list.length uc, .slice ub u.fields.length ud]).alloc (.cells #[.string nm] 9)).alloc (.cells #[.int .i64 1, .slice (some ⟨w3.heap.size, 0, none⟩) 1 1, .int .i64 0, .bool false, .int .i64 0, .string ⟨#[]⟩, .slice none 0 0, .slice none 0 0] 50)) (w3.heap.size + 1) 50 #[.int .i64 1, .slice (some ⟨w3.heap.size, 0, none⟩) 1 1, .int .i64 0, .bool false, .int .i64 0, .string ⟨#[]⟩, .slice none 0 0, .slice none 0 0] := by
          have h1 := Box.new ((sets w3 w.heap.size 0 [.int .i64 u.kind, .bool u.yes, .int .i64 u.num, .string u.text, .slice ua u.list.length uc, .slice ub u.fields.length ud]).alloc (.cells #[.string nm] 9)) 50 #[.int .i64 1, .slice (some ⟨w3.heap.size, 0, none⟩) 1 1, .int .i64 0, .bool false, .int .i64 0, .string ⟨#[]⟩, .slice none 0 0, .slice none 0 0]
          rw [show ((sets w3 w.heap.size 0 [.int .i64 u.kind, .bool u.yes, .int .i64 u.num, .string u.text, .slice ua u.list.length uc, .slice ub u.fields.length ud]).alloc (.cells #[.string nm] 9)).heap.size = w3.heap.size + 1 by rw [← hz5]; simp] at h1
          exact h1
        have hops : OpsAt (((sets w3 w.heap.size 0 [.int .i64 u.kind, .bool u.yes, .int .i64 u.num, .string u.text, .slice ua u.list.length uc, .slice ub u.fields.length ud]).alloc (.cells #[.string nm] 9)).alloc (.cells #[.int .i64 1, .slice (some ⟨w3.heap.size, 0, none⟩) 1 1, .int .i64 0, .bool false, .int .i64 0, .string ⟨#[]⟩, .slice none 0 0, .slice none 0 0] 50)) All (some ⟨w3.heap.size + 1, 0, none⟩) [⟨1, [nm], V.null⟩] := op_at hbs hbo (none_at _ _ V.null rfl rfl)
        have hcall := apply_any u [⟨1, [nm], V.null⟩] ua uc ub ud (some ⟨w3.heap.size + 1, 0, none⟩) 1 8 _ (H3.out.2.2.below hA7) hops (by simp) HU.out.2.1 (by omega) (fun o ho _ => by rw [show o = ⟨1, [nm], V.null⟩ by simpa using ho]; exact null_okv 8)
        rw [app_nomap nm hk] at hcall
        have HC := Lib.hid hcall
        have HB := Lib.hid (H3.out.1.trans (hA7.mono H3.out.1.size))
        clear hcall hops hbo hbs hA6 hA7 hz5 hk H3 HU
        go_wp2_with fail
        refine HC.out.mono ?_
        rintro e w8 ⟨hb8, _, rfl⟩
        have HF := Lib.hid ((HB.out.trans (hb8.mono HB.out.size)).alloc (HB.out.trans (hb8.mono HB.out.size)).size (.cells #[.int .i64 0, .bool false, .int .i64 0, .string ⟨#[]⟩, .slice none 0 0, .slice none 0 0] 26))
        clear hb8 k0 k1 k2 k3 k4 k5 v0 v1 v2 v3 v4 v5 s0 s1 s2 s3 s4 s5 hvl HB HC
        go_wp2
        go_ret
        exact ⟨rfl, HF.out⟩

end Go.Proofs.Ytcocljgafhpdaaa.patchTwice
end
