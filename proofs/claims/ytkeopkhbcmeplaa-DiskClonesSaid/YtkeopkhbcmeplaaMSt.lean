/-
  A disk and a model beside one another.
-/
import Derived.Test.YtkeopkhbcmeplaaMFew
namespace Go.Proofs.Ytkeopkhbcmeplaa
open Go.RowKit

theorem DM.base {w : World} {B B' d n : Nat} {M : MS} (h : DM w B d n M) (hb : B' ≤ B) : DM w B' d n M := by
  obtain ⟨mb, m, S, fs, e, hI, h1, h2, g1, g2, g3, g4, g5, g6⟩ := h
  exact ⟨mb, m, S, fs, e, hI, h1, h2, g1, g2, fun p hp => Bs.mono (g3 p hp) hb, by omega, by omega, g6⟩
theorem MAt.base {w : World} {B B' m : Nat} {v : Value} {M : MS} (h : MAt w B m v M) (hb : B' ≤ B) : MAt w B' m v M := ⟨h.1, h.2.1.mono hb, by have := h.2.2; omega⟩

/-- a disk of M, a model of M2 -/
def St (w : World) (B d n m : Nat) (v : Value) (M M2 : MS) : Prop := DM w B d n M ∧ MAt w B m v M2

theorem St.below {w w' : World} {B d n m : Nat} {v : Value} {M M2 : MS} (h : St w B d n m v M M2) (hb : Below w.heap.size w w') : St w' B d n m v M M2 := ⟨h.1.below hb, h.2.below hb⟩
theorem St.size {w : World} {B d n m : Nat} {v : Value} {M M2 : MS} (h : St w B d n m v M M2) : B ≤ w.heap.size := by have := h.2.2.2; have := h.2.lt.1; omega

/-- what is of a kind of its own -/
def Else (T : TypeId) : Prop := T ≠ 63 ∧ T ≠ 5 ∧ T ≠ 30 ∧ T ≠ 45

theorem MAt.types {w : World} {B m : Nat} {v : Value} {M : MS} (h : MAt w B m v M) : (∃ cs, w.heap[m]? = some (.cells cs 30 (0, 0))) ∧ ∀ q, v.ownBlock = some q → ∃ cs, w.heap[q]? = some (.cells cs 45 (0, 0)) := by
  refine ⟨⟨_, h.1⟩, fun q hq => ?_⟩
  rcases h.2.1.2 with ⟨rfl, _⟩ | ⟨g, cap, cur, rfl, _, hg, _⟩
  · cases hq
  · obtain rfl : g = q := by simpa [Value.ownBlock] using hq
    exact ⟨_, hg⟩

/-- behind a disk's turn -/
theorem St.played {w w' : World} {B d n m : Nat} {v : Value} {M M2 : MS} (h : St w B d n m v M M2) {r : Int × MS} {e : Ending} (hp : PlayPost w w' B d n r e) :
    e = .returned (.int .i64 r.1) ∧ St w' B d (n + 1) m v r.2 M2 ∧ Below B w w' ∧ ∀ (b : Nat) (cs : Array Value) (T : TypeId) (fz : Nat × Nat), w.heap[b]? = some (.cells cs T fz) → Else T → w'.heap[b]? = w.heap[b]? := by
  obtain ⟨e1, w1, hb, hT⟩ := hp
  have hs1 := h.below hb
  have hk : ∀ (q : Nat) (cs : Array Value) (T : TypeId) (fz : Nat × Nat), w1.heap[q]? = some (.cells cs T fz) → T ≠ 63 → T ≠ 5 → w'.heap[q]? = w1.heap[q]? := fun q cs T fz hq h1 h2 => hT.other hq h1 h2
  obtain ⟨⟨cm, hm⟩, hv⟩ := hs1.2.types
  refine ⟨e1, ⟨hT.1, hs1.2.keep (hk m _ _ _ hm (by decide) (by decide)) fun q hq => ?_⟩, (hb.mono h.size).trans (hT.below hs1.size), fun b cs T fz hb2 hE => ?_⟩
  · obtain ⟨cq, hq2⟩ := hv q hq
    exact hk q _ _ _ hq2 (by decide) (by decide)
  · have hlt : b < w.heap.size := (Array.getElem?_eq_some_iff.1 hb2).1
    have h1 := hb.block b hlt
    exact (hk b cs T fz (h1.trans hb2) hE.1 hE.2.1).trans h1

/-- behind a model's turn -/
theorem St.done {w w' : World} {B d n m : Nat} {v : Value} {M M2 : MS} (h : St w B d n m v M M2) {r : Int × MS} {e : Ending} (hp : DoPost w w' B m v r e) :
    e = .returned (.int .i64 r.1) ∧ (∃ v', St w' B d n m v' M r.2) ∧ Below B w w' ∧ ∀ (b : Nat) (cs : Array Value) (T : TypeId) (fz : Nat × Nat), w.heap[b]? = some (.cells cs T fz) → Else T → w'.heap[b]? = w.heap[b]? := by
  obtain ⟨e1, ⟨v', h1, h2⟩, h3⟩ := hp
  obtain ⟨⟨cm, hm⟩, hv⟩ := h.2.types
  have hk : ∀ q, q < w.heap.size → (∀ cs, w.heap[q]? ≠ some (.cells cs 30 (0, 0))) → (∀ cs, w.heap[q]? ≠ some (.cells cs 45 (0, 0))) → w'.heap[q]? = w.heap[q]? := fun q hq g1 g2 =>
    h3.2.2.2.2 q hq (fun e => g1 cm (by rw [e]; exact hm)) fun e => by
      obtain ⟨cq, hq2⟩ := hv q e
      exact g2 cq hq2
  have ne : ∀ {q : Nat} {cs : Array Value} {T T' : TypeId} {fz fz' : Nat × Nat} {cs' : Array Value}, w.heap[q]? = some (.cells cs T fz) → T ≠ T' → w.heap[q]? ≠ some (.cells cs' T' fz') := fun hq hne e => by
    rw [hq] at e
    injection e with e
    injection e with _ e _
    exact hne e
  refine ⟨e1, ⟨v', h.1.keep fun q hB hq ht => hk q hq ?_ ?_, h1⟩, ⟨h3.1, h3.2.1, h3.2.2.1, h3.2.2.2.1, fun q hq => h3.2.2.2.2 q (by have := h.size; omega) (fun e => by have := h.2.2.2; omega) fun e => by have := h.2.lt.2 q e; omega⟩, fun b cs T fz hb hE => hk b (Array.getElem?_eq_some_iff.1 hb).1 (fun cs' => ne hb hE.2.2.1) (fun cs' => ne hb hE.2.2.2)⟩
  · rcases ht with ⟨cs, T, fz, e, h9⟩ | ⟨es, c, e⟩
    · intro cs'
      refine ne e ?_
      rcases h9 with rfl | rfl <;> decide
    · intro cs' e2
      rw [e] at e2; injection e2 with e2; cases e2
  · rcases ht with ⟨cs, T, fz, e, h9⟩ | ⟨es, c, e⟩
    · intro cs'
      refine ne e ?_
      rcases h9 with rfl | rfl <;> decide
    · intro cs' e2
      rw [e] at e2; injection e2 with e2; cases e2

theorem rd_long {w : World} {B d n : Nat} {M : MS} (h : DM w B d n M) {k : L8} (hk : 40 < k.length) : M.rd k = (⟨#[]⟩, if M.down then 8 else 5) := by
  have hs := h.known.2.2.2.2.2.2.2
  have hat : isAt k M.files = false := by
    cases e : isAt k M.files with
    | false => rfl
    | true =>
      obtain ⟨f, r, e1, e2, e3, _⟩ := isAt_split e
      have := hs f (by rw [e3]; simp)
      rw [e2] at this
      omega
  unfold MS.rd
  rw [hat]
  cases M.down <;> rfl

end Go.Proofs.Ytkeopkhbcmeplaa
