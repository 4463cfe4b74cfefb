/-
  wire: ReadAsk: what bytes are, as a question.
-/
import Derived.Test.YtcncoppnkodhmabWApM
import Derived.Deep.RegionHeld
import Derived.Deep.RegionWith
import Derived.Outline
namespace Go.Proofs.Ytcncoppnkodhmab
open Go.RowKit bsK rdS

set_option linter.unusedVariables false
set_option linter.unusedSimpArgs false

/-- the reader's state behind the op and k texts -/
def tS (st : St) : Nat → St
  | 0 => (numS st 19).2
  | k + 1 => (textS (tS st k) 4096).2
def tV (st : St) (k : Nat) : ByteArray := ⟨(textS (tS st k) 4096).1.toArray⟩
/-- the reader's state behind all texts and k numbers -/
def nS (st : St) : Nat → St
  | 0 => tS st 4
  | k + 1 => (numS (nS st k) 1099511627776).2
def nV (st : St) (k : Nat) : Int := ((numS (nS st k) 1099511627776).1 : Nat)
def akOf (st : St) : Ak := ⟨((numS st 19).1 : Nat), tV st 0, tV st 1, tV st 2, tV st 3, nV st 0, nV st 1⟩
theorem akOf_tx (st : St) (k : Nat) (hk : k < 4) : (akOf st).tx k = tV st k := by
  match k, hk with
  | 0, _ => rfl
  | 1, _ => rfl
  | 2, _ => rfl
  | 3, _ => rfl
theorem akOf_nu (st : St) (k : Nat) (hk : k < 2) : (akOf st).nu k = nV st k := by
  match k, hk with
  | 0, _ => rfl
  | 1, _ => rfl
theorem tS_len {st : St} (h : stLen st) : ∀ k, stLen (tS st k)
  | 0 => numS_len h
  | k + 1 => textS_len (tS_len h k)
open Classical in
/-- the question that bytes are -/
noncomputable def readA (l : List UInt8) : Option Ak := if endS (nS (some l) 2) = 0 ∧ (akOf (some l)).right = true then some (akOf (some l)) else none

theorem endS_nil {st : St} (h : endS st = 0) : st = some [] := by
  match st, h with
  | some [], _ => rfl
  | none, h => cases h
  | some (c :: r), h => cases h

theorem tS_back {st : St} : ∀ k, k ≤ 4 → ∀ {r : L}, tS st k = some r → st = some ((akOf st).layT k ++ r)
  | 0, _, r, h => by
    have h1 := (numS_back (show numS st 19 = ((numS st 19).1, some r) from Prod.ext rfl h)).1
    show st = some (octN ((numS st 19).1 : Int).toNat ++ r)
    rw [Int.toNat_natCast]
    exact h1
  | k + 1, hk, r, h => by
    have h1 := (textS_back (show textS (tS st k) 4096 = ((textS (tS st k) 4096).1, some r) from Prod.ext rfl h)).1
    have h2 := tS_back k (by omega) h1
    have h3 : (akOf st).layT (k + 1) ++ r = (akOf st).layT k ++ (octT (tV st k) ++ r) := by
      show ((akOf st).layT k ++ octT ((akOf st).tx k)) ++ r = _
      rw [akOf_tx st k (by omega), List.append_assoc]
    rw [h3]
    exact h2
theorem nS_back {st : St} : ∀ k, k ≤ 2 → ∀ {r : L}, nS st k = some r → st = some ((akOf st).layN k ++ r)
  | 0, _, r, h => tS_back 4 (by omega) h
  | k + 1, hk, r, h => by
    have h1 := (numS_back (show numS (nS st k) 1099511627776 = ((numS (nS st k) 1099511627776).1, some r) from Prod.ext rfl h)).1
    have h2 := nS_back k (by omega) h1
    have h3 : (akOf st).layN (k + 1) ++ r = (akOf st).layN k ++ (octN (numS (nS st k) 1099511627776).1 ++ r) := by
      show ((akOf st).layN k ++ octN ((akOf st).nu k).toNat) ++ r = _
      rw [akOf_nu st k (by omega), List.append_assoc]
      unfold nV
      rw [Int.toNat_natCast]
    rw [h3]
    exact h2

/-- what is told of bytes is in them, just so -/
theorem readA_back {l : List UInt8} {q : Ak} (h : readA l = some q) : l = octA q ∧ q.right = true := by
  unfold readA at h
  split at h
  · rename_i hc
    have e : akOf (some l) = q := Option.some.inj h
    have h1 := nS_back 2 (Nat.le_refl _) (endS_nil hc.1)
    rw [List.append_nil] at h1
    rw [← e]
    refine ⟨?_, hc.2⟩
    rw [← Ak.lay_all]
    exact Option.some.inj h1
  · cases h

theorem numS_lay {m M : Nat} (h : m ≤ M) (hm : m < 2 ^ 64) (x : L) : numS (some (octN m ++ x)) M = (m, some x) := numS_laid h hm x
/-- what is laid is read -/
theorem readA_laid {q : Ak} (h : q.right = true) : readA (octA q) = some q := by
  obtain ⟨h1, h2, h3, h4⟩ := Ak.of_right h
  have p0 := h1 0; have p1 := h1 1; have p2 := h1 2; have p3 := h1 3; have p5 := h2 0; have p6 := h2 1
  obtain ⟨o, a, b, c, d, n, m⟩ := q
  simp only [Ak.tx, Ak.nu] at p0 p1 p2 p3 p5 p6 h3 h4
  have e0 : numS (some (octA ⟨o, a, b, c, d, n, m⟩)) 19 = (o.toNat, some (octT a ++ (octT b ++ (octT c ++ (octT d ++ (octN n.toNat ++ octN m.toNat)))))) := numS_laid (m := o.toNat) (by omega) (by omega) _
  have e1 : textS (tS (some (octA ⟨o, a, b, c, d, n, m⟩)) 0) 4096 = (a.data.toList, some (octT b ++ (octT c ++ (octT d ++ (octN n.toNat ++ octN m.toNat))))) := by
    show textS (numS _ 19).2 4096 = _
    rw [e0]
    exact textS_laid p0 (by omega) _
  have e2 : textS (tS (some (octA ⟨o, a, b, c, d, n, m⟩)) 1) 4096 = (b.data.toList, some (octT c ++ (octT d ++ (octN n.toNat ++ octN m.toNat)))) := by
    show textS (textS (tS _ 0) 4096).2 4096 = _
    rw [e1]
    exact textS_laid p1 (by omega) _
  have e3 : textS (tS (some (octA ⟨o, a, b, c, d, n, m⟩)) 2) 4096 = (c.data.toList, some (octT d ++ (octN n.toNat ++ octN m.toNat))) := by
    show textS (textS (tS _ 1) 4096).2 4096 = _
    rw [e2]
    exact textS_laid p2 (by omega) _
  have e4 : textS (tS (some (octA ⟨o, a, b, c, d, n, m⟩)) 3) 4096 = (d.data.toList, some (octN n.toNat ++ octN m.toNat)) := by
    show textS (textS (tS _ 2) 4096).2 4096 = _
    rw [e3]
    exact textS_laid p3 (by omega) _
  have e5 : numS (nS (some (octA ⟨o, a, b, c, d, n, m⟩)) 0) 1099511627776 = (n.toNat, some (octN m.toNat)) := by
    show numS (textS (tS _ 3) 4096).2 1099511627776 = _
    rw [e4]
    exact numS_laid (by omega) (by omega) _
  have e6 : numS (nS (some (octA ⟨o, a, b, c, d, n, m⟩)) 1) 1099511627776 = (m.toNat, some []) := by
    show numS (numS (nS _ 0) 1099511627776).2 1099511627776 = _
    rw [e5]
    have := numS_laid (m := m.toNat) (M := 1099511627776) (by omega) (by omega) []
    rwa [List.append_nil] at this
  have hq : akOf (some (octA ⟨o, a, b, c, d, n, m⟩)) = ⟨o, a, b, c, d, n, m⟩ := by
    unfold akOf tV nV
    rw [e0, e1, e2, e3, e4, e5, e6]
    have f0 : ((o.toNat : Nat) : Int) = o := by omega
    have f1 : ((n.toNat : Nat) : Int) = n := by omega
    have f2 : ((m.toNat : Nat) : Int) = m := by omega
    show (⟨((o.toNat : Nat) : Int), a, b, c, d, ((n.toNat : Nat) : Int), ((m.toNat : Nat) : Int)⟩ : Ak) = _
    rw [f0, f1, f2]
  unfold readA
  rw [hq, if_pos]
  refine ⟨?_, h⟩
  show endS (numS (nS _ 1) 1099511627776).2 = 0
  rw [e6]
  rfl
/-- cut off it is none -/
theorem readA_cut {q : Ak} (h : q.right = true) {k : Nat} (hk : k < (octA q).length) : readA ((octA q).take k) = none := by
  cases hr : readA ((octA q).take k) with
  | none => rfl
  | some p =>
    obtain ⟨h1, h2⟩ := readA_back hr
    have h3 := (octA_apart h2 h ((octA q).drop k) [] (by rw [← h1, List.take_append_drop, List.append_nil])).2
    have h4 := congrArg List.length h3
    rw [List.length_drop] at h4
    simp at h4
    omega
/-- with something behind it it is none -/
theorem readA_more {q : Ak} (h : q.right = true) (x : List UInt8) (hx : x ≠ []) : readA (octA q ++ x) = none := by
  cases hr : readA (octA q ++ x) with
  | none => rfl
  | some p =>
    obtain ⟨h1, h2⟩ := readA_back hr
    exact absurd (octA_apart h2 h [] x (by rw [← h1, List.append_nil])).2.symm hx

end Go.Proofs.Ytcncoppnkodhmab
