/-
  Two disks apart from one another, and a model.
-/
import Derived.Test.YtkeopkhbcmeplaaMSt
import Derived.Test.YtkeopkhbcmeplaaDNil
namespace Go.Proofs.Ytkeopkhbcmeplaa
open Go.RowKit

theorem DMF.base {w : World} {B B' d n : Nat} {M : MS} {F : Nat → Prop} (h : DMF w B d n M F) (hb : B' ≤ B) : DMF w B' d n M F := by
  obtain ⟨mb, m, S, fs, e, hI, h1, h2, ⟨g1, g2, g3, g4, g5, g6⟩, hF⟩ := h
  exact ⟨mb, m, S, fs, e, hI, h1, h2, ⟨g1, g2, fun p hp => Bs.mono (g3 p hp) hb, by omega, by omega, g6⟩, hF⟩
theorem DMF.keepT {w w' : World} {B d n : Nat} {M : MS} {F : Nat → Prop} (h : DMF w B d n M F) (hk : ∀ q, q < w.heap.size → ((∃ cs T fz, w.heap[q]? = some (.cells cs T fz) ∧ (T = 63 ∨ T = 5)) ∨ ∃ es c, w.heap[q]? = some (.map es c)) → w'.heap[q]? = w.heap[q]?) : DMF w' B d n M F := by
  obtain ⟨mb, m, S, fs, e, hI, h1, h2, hD, hf⟩ := h
  exact ⟨mb, m, S, fs, e, hI, h1, h2, hD.keep fun q hq => hk q (hD.foot_lt q hq) (hD.foot_type q hq), hf⟩

/-- a disk of Md, one of Mc, a model of Mm -/
def Two (w : World) (B d n c n2 m : Nat) (v : Value) (Md Mc Mm : MS) : Prop := ∃ F G : Nat → Prop, DMF w B d n Md F ∧ DMF w B c n2 Mc G ∧ MAt w B m v Mm ∧ ∀ q, F q → ¬ G q

theorem Two.swap {w : World} {B d n c n2 m : Nat} {v : Value} {Md Mc Mm : MS} (h : Two w B d n c n2 m v Md Mc Mm) : Two w B c n2 d n m v Mc Md Mm := by
  obtain ⟨F, G, h1, h2, h3, h4⟩ := h
  exact ⟨G, F, h2, h1, h3, fun q hg hf => h4 q hf hg⟩
theorem Two.below {w w' : World} {B d n c n2 m : Nat} {v : Value} {Md Mc Mm : MS} (h : Two w B d n c n2 m v Md Mc Mm) (hb : Below w.heap.size w w') : Two w' B d n c n2 m v Md Mc Mm := by
  obtain ⟨F, G, h1, h2, h3, h4⟩ := h
  exact ⟨F, G, h1.below hb, h2.below hb, h3.below hb, h4⟩
theorem Two.st {w : World} {B d n c n2 m : Nat} {v : Value} {Md Mc Mm : MS} (h : Two w B d n c n2 m v Md Mc Mm) : St w B d n m v Md Mm := by
  obtain ⟨F, G, h1, h2, h3, h4⟩ := h
  exact ⟨h1.dm, h3⟩

/-- behind a clone -/
theorem Two.made {w w' : World} {B d n c m : Nat} {v : Value} {M : MS} (h : St w B d n m v M M) (hc : DM w' w.heap.size c n M) (hb : Below w.heap.size w w') : Two w' B d n c n m v M M M :=
  ⟨_, _, h.1.foot.below hb, hc.foot.base h.size, h.2.below hb, fun q h1 h2 => by omega⟩

/-- behind the first's turn -/
theorem two_played {w w' : World} {B d n c n2 m : Nat} {v : Value} {Md Mc Mm : MS} {F G : Nat → Prop} (h1 : DMF w B d n Md F) (h2 : DMF w B c n2 Mc G) (h3 : MAt w B m v Mm) (h4 : ∀ q, F q → ¬ G q) {r : Int × MS} {e : Ending}
    (hq : PlayF w w' B d n r F e) :
    e = .returned (.int .i64 r.1) ∧ Two w' B d (n + 1) c n2 m v r.2 Mc Mm ∧ Below B w w' ∧ ∀ (b : Nat) (cs : Array Value) (T : TypeId) (fz : Nat × Nat), w.heap[b]? = some (.cells cs T fz) → Else T → w'.heap[b]? = w.heap[b]? := by
  have hst : St w B d n m v Md Mm := ⟨h1.dm, h3⟩
  obtain ⟨e1, ⟨_, hm⟩, hbw, hx⟩ := hst.played hq.play
  obtain ⟨_, w1, hb, ⟨hT1, _, hT3⟩⟩ := hq
  have h2' := h2.below hb
  refine ⟨e1, ⟨fun q => F q ∨ w1.heap.size ≤ q, fun q => G q ∧ q < w1.heap.size, hT1, (h2'.imp (Nat.le_refl _) fun q hq hG => ⟨hG, hq⟩).keep fun q hq hG => hT3 q hq fun hf => h4 q hf hG.1, hm, fun q hf hG => ?_⟩, hbw, hx⟩
  rcases hf with hf | hf
  · exact h4 q hf hG.1
  · omega

/-- an act of the first -/
theorem Two.play {w : World} {B d n c n2 m : Nat} {v : Value} {Md Mc Mm : MS} (h : Two w B d n c n2 m v Md Mc Mm) (hn : n < 1000000) (a : ActS) (h1 : a.name.size ≤ maxLen) (h2 : a.dest.size ≤ maxLen) (h3 : a.n ≤ 9223372036854775807) :
    Calls Try.prog 13 #[.pointer (some ⟨d, 0, none⟩), .agg #[.int .i64 a.k, .int .i64 a.n, .string a.name, .string a.dest, .string a.data]] w fun e w' => e = .returned (.int .i64 (Md.act a).1) ∧ Two w' B d (n + 1) c n2 m v (Md.act a).2 Mc Mm ∧ Below B w w' ∧ ∀ (b : Nat) (cs : Array Value) (T : TypeId) (fz : Nat × Nat), w.heap[b]? = some (.cells cs T fz) → Else T → w'.heap[b]? = w.heap[b]? := by
  obtain ⟨F, G, g1, g2, g3, g4⟩ := h
  exact (play_f g1 hn a h1 h2 h3).mono fun e w' hp => two_played g1 g2 g3 g4 hp

/-- behind the model's -/
theorem Two.done {w w' : World} {B d n c n2 m : Nat} {v : Value} {Md Mc Mm : MS} (h : Two w B d n c n2 m v Md Mc Mm) {r : Int × MS} {e : Ending} (hp : DoPost w w' B m v r e) :
    e = .returned (.int .i64 r.1) ∧ (∃ v', Two w' B d n c n2 m v' Md Mc r.2) ∧ Below B w w' := by
  have hst := h.st
  obtain ⟨e1, _, hbw, _⟩ := hst.done hp
  obtain ⟨F, G, h1, h2, hM, h4⟩ := h
  obtain ⟨_, ⟨v', h5, h6⟩, h3⟩ := hp
  obtain ⟨⟨cm, hm⟩, hv⟩ := hM.types
  have hk : ∀ q, q < w.heap.size → ((∃ cs T fz, w.heap[q]? = some (.cells cs T fz) ∧ (T = 63 ∨ T = 5)) ∨ ∃ es c, w.heap[q]? = some (.map es c)) → w'.heap[q]? = w.heap[q]? := fun q hq ht =>
    h3.2.2.2.2 q hq (fun e => by
      subst e
      rcases ht with ⟨cs, T, fz, e2, h9⟩ | ⟨es, c, e2⟩
      · rw [hm] at e2; injection e2 with e2; injection e2 with _ e2 _
        rcases h9 with h9 | h9 <;> rw [h9] at e2 <;> exact absurd e2 (by decide)
      · rw [hm] at e2; injection e2 with e2; cases e2) fun e => by
      obtain ⟨cq, hq2⟩ := hv q e
      rcases ht with ⟨cs, T, fz, e2, h9⟩ | ⟨es, c, e2⟩
      · rw [hq2] at e2; injection e2 with e2; injection e2 with _ e2 _
        rcases h9 with h9 | h9 <;> rw [h9] at e2 <;> exact absurd e2 (by decide)
      · rw [hq2] at e2; injection e2 with e2; cases e2
  exact ⟨e1, ⟨v', F, G, h1.keepT hk, h2.keepT hk, h5, h4⟩, hbw⟩

/-- the model behind so many acts -/
def actsK (M : MS) (vs : List ActS) (k : Nat) : MS := (vs.take k).foldl (fun M a => (M.act a).2) M
theorem actsK_zero (M : MS) (vs : List ActS) : actsK M vs 0 = M := rfl
theorem actsK_next (M : MS) (vs : List ActS) (k : Nat) (h : k < vs.length) : actsK M vs (k + 1) = ((actsK M vs k).act (vs[k])).2 := by
  unfold actsK
  rw [List.take_add_one, List.getElem?_eq_getElem h, List.foldl_append]
  rfl

end Go.Proofs.Ytkeopkhbcmeplaa
