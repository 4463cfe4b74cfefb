/-
  Sequences whose text itself ranges over a function: what such a sequence owes, and the law of a loop over one (of no package). The rounds' invariants abide the turn of any new block that holds no cells, and a round leaves such blocks as they lay, and the first m new blocks whole (what the sequence's own activations keep in boxes).
-/
import Derived.Test.YtcebnoapgceodaaProg
import Derived.RangeFuncNested
import Derived.RangeFuncBound
import Derived.RangeFuncLeaves
namespace Go.Proofs.Ytcebnoapgceodaa.rgR
open Go.RowKit

/-- a row of blocks that lies as it lay -/
def SameIn (B m : Nat) (W W' : World) : Prop := ∀ q, B ≤ q → q < B + m → W'.heap[q]? = W.heap[q]?
theorem SameIn.zero (B : Nat) (W W' : World) : SameIn B 0 W W' := fun q h1 h2 => absurd h2 (by omega)

/-- what is told, one by one: until the end, or until a round says 'no more'; the first m new blocks are the sequence's own -/
def SeqR {α : Type} (F : Fence) (n : Nat) (P : Program) (g : Nat) (lb : Array Value) (encs : α → Array Value) (Kp : World → World → Prop) (S Sp : List α → Prop) (N m : Nat) (w : World) : Prop :=
  ∀ (l : Nat) (J Jx : List α → World → Prop) (W : World), Below w.heap.size w W → OwnFrom W.heap.size J → OwnFrom W.heap.size Jx →
    (∀ pre x W1, J pre W1 → pre.length < N → W.heap.size + m ≤ W1.heap.size → YieldAt F (n - 1) P l (encs x) W1 fun e W' =>
      (KeepsFrom W.heap.size W1 W' ∧ SameIn W.heap.size m W1 W') ∧ ((e = .returned (.bool true) ∧ J (pre ++ [x]) W' ∧ Kp W1 W') ∨ (e = .returned (.bool false) ∧ Jx (pre ++ [x]) W'))) →
    J [] W →
    CallsIn F n P g (#[.func (.yield l) #[] #[]] ++ lb) W fun e W' => (∃ v, e = .returned v) ∧ ((∃ xs, S xs ∧ J xs W') ∨ (∃ pre, Sp pre ∧ Jx pre W'))

theorem seqR_of {α : Type} {F : Fence} {n : Nat} {P : Program} {g : Nat} {lb : Array Value} {encs : α → Array Value} {Kp : World → World → Prop} {S Sp : List α → Prop} {N : Nat} {w : World}
    (h : SeqStopsK F n P g lb encs Kp S Sp N w) : SeqR F n P g lb encs Kp S Sp N 0 w := fun l J Jx W hW hJ hJx hY h0 =>
  (h l (fun pre W1 => J pre W1 ∧ W.heap.size ≤ W1.heap.size) Jx W hW (fun s A B row hs hg hr => ⟨hJ s A B row hs.1 hg fun r e => (hr r e).imp id fun ⟨o, ho, hw⟩ => ⟨o, ho, Obj.not_cells_of_walk hw⟩, Nat.le_trans hs.2 hg.size⟩)
    (fun s A B row hs hg hr => hJx s A B row hs hg fun r e => (hr r e).imp id fun ⟨o, ho, hw⟩ => ⟨o, ho, Obj.not_cells_of_walk hw⟩)
    (fun pre x W1 hj hl => (hY pre x W1 hj.1 hl hj.2).mono fun _ _ hr => hr.2.imp (fun k => ⟨k.1, ⟨k.2.1, Nat.le_trans hj.2 hr.1.1.size⟩, k.2.2⟩) id) ⟨h0, Nat.le_refl _⟩).mono fun _ _ r => ⟨r.1, r.2.imp (fun ⟨xs, a, c⟩ => ⟨xs, a, c.1⟩) id⟩

/-- the loop's record, and the block of its rounds' deferred calls, in two blocks one behind the other -/
def At2 (b : Nat) (r : Loop) (W : World) : Prop := W.heap[b + 1]? = some (.loop r) ∧ W.heap[b]? = some (.deferred (some []))

theorem At2.far {b : Nat} {r : Loop} {A C : World} {row : Option Nat} (h : At2 b r A) (hg : A.grownBy C row) (hr : ∀ q, row = some q → b + 2 ≤ q) : At2 b r C := by
  have k1 := (Array.getElem?_eq_some_iff.1 h.1).1
  have k2 := (Array.getElem?_eq_some_iff.1 h.2).1
  exact ⟨(hg.block _ k1 fun e => by have := hr _ e.symm; omega).trans h.1, (hg.block _ k2 fun e => by have := hr _ e.symm; omega).trans h.2⟩
theorem At2.put {b : Nat} {r : Loop} {A : World} (h : At2 b r A) (r' : Loop) : At2 b r' (A.putObj (b + 1) (.loop r')) :=
  ⟨World.putObj_heap_same (Array.getElem?_eq_some_iff.1 h.1).1, (World.putObj_heap_other (by omega)).trans h.2⟩
theorem At2.keep {b : Nat} {r : Loop} {A C : World} (h : At2 b r A) (hk : KeepsFrom b A C) : At2 b r C :=
  ⟨hk.same (b + 1) _ (by omega) h.1 rfl, hk.same b _ (Nat.le_refl _) h.2 rfl⟩
theorem At2.own {b : Nat} (r : Loop) : OwnFrom (b + 2) (fun (_ : Unit) W => At2 b r W) := fun _ _ _ _ h hg hr => h.far hg fun q e => (hr q e).1
theorem own_up {β : Type} {B B' : Nat} {I : β → World → Prop} (h : OwnFrom B I) (hB : B ≤ B') : OwnFrom B' I := fun s X Y row hs hg hr => h s X Y row hs hg fun q e => ⟨Nat.le_trans hB (hr q e).1, (hr q e).2⟩
theorem keeps_put {B l : Nat} {W : World} (o : Obj) (hl : l < B) : KeepsFrom B W (W.putObj l o) := KeepsFrom.of_grownBy (grownBy_putObj' W l o) fun j e => by cases e; exact hl
theorem keeps_up {B B' : Nat} {W W' : World} (h : KeepsFrom B W W') (hB : B ≤ B') : KeepsFrom B' W W' := ⟨h.size, fun k o hk => h.same k o (Nat.le_trans hB hk)⟩

variable {F : Fence} {n : Nat} {P : Program} {w : World}

/-- THE LAW: a loop over such a sequence, at an activation's outermost loop. -/
theorem wpIn_rangeR {α : Type} {g : Operand} {ps : Array Tmp} {assign body : Code} {Q : Exit → Act → World → Prop} {a : Act} {w : World}
    (hro : F.round = none) (h1 : 1 ≤ n) {gf : Nat} {lb : Array Value} (hg : a.eval g = .func (.func gf) #[] lb) (hFg : F.fn gf) (eg : ∀ args w, (callFunc gf args).run P w = .ok (.enter gf args) w)
    {encs : α → Array Value} {Kp : World → World → Prop} {S Sp : List α → Prop} {N m : Nat} {w0 : World} (hseq : SeqR F (n - 1) P gf lb encs Kp S Sp N m w0)
    (hKt : ∀ {A B C : World}, Kp A B → Kp B C → Kp A C) (hKb : ∀ (W : World) (l : Nat) (o o' : Obj), w.heap.size ≤ l → W.heap[l]? = some o → o.isCells = false → o.isWalk = false → Kp W (W.putObj l o')) (hb0 : Below w0.heap.size w0 w) (hps : ∀ x, (encs x).size = ps.size)
    (I : List α → World → Prop) (Ix : Code → List α → World → Prop) (hI : OwnFrom w.heap.size I) (hIx : ∀ c, OwnFrom w.heap.size (Ix c)) (h0 : I [] w) (a₁ : α → Act)
    (hassign : ∀ (l : Nat) (x : α) (W : World) (K : Act → World → Prop), K (a₁ x) W →
      assign.wpIn (F.inRound l) (n - 1 - 1) P (Exit.then K (fun _ _ _ => False)) { tmps := (ps.zip (encs x)).foldl (fun t (p, v) => t.setIfInBounds p v) a.tmps, defers := [] } W)
    (hbody : ∀ (l : Nat) (pre : List α) (x : α) (W : World), I pre W → pre.length < N → w.heap.size + 2 + m ≤ W.heap.size → body.wpIn (F.inRound l) (n - 1 - 1) P (fun e a' W' => ownPostG w.heap.size Kp I Ix (pre ++ [x]) W e a' W' ∧ SameIn (w.heap.size + 2) m W W') (a₁ x) W)
    (hdone : ∀ (D : Nat) (xs : List α) (W : World), w.heap.size ≤ D → S xs → I xs W → W.heap[D]? = some (.deferred (some [])) → Q .normal { a with defers := { target := .collected D, args := #[] } :: a.defers } W)
    (hstop : ∀ (D : Nat) (c : Code) (pre : List α) (W : World), w.heap.size ≤ D → Sp pre → Ix c pre W → W.heap[D]? = some (.deferred (some [])) → c.wpIn F n P Q { a with defers := { target := .collected D, args := #[] } :: a.defers } W) :
    (Code.rangeFunc g ps assign body).wpIn F n P Q a w := by
  refine wpIn_rangeFunc fun fn hfn => ?_
  rw [hro]
  obtain ⟨b, hb⟩ : ∃ b, b = w.heap.size := ⟨_, rfl⟩
  obtain ⟨R, hR⟩ : ∃ R : LoopState → Option Code → Loop, R = fun st pe => { state := st, pending := pe, fn, tmps := a.tmps, params := ps, assign, body, defers := w.heap.size } := ⟨_, rfl⟩
  obtain ⟨V, hV⟩ : ∃ V, V = (w.alloc (.deferred (some []))).alloc (.loop (R .ready none)) := ⟨_, rfl⟩
  have hVs : V.heap.size = b + 2 := by rw [hV, hb]; simp
  have hV2 : At2 b (R .ready none) V := by
    rw [hV, hb]
    refine ⟨?_, ?_⟩
    · have := World.alloc_heap_new (w.alloc (.deferred (some []))) (.loop (R .ready none))
      rwa [World.size_alloc] at this
    · exact (Below.heap_alloc _ _ _ (by simp)).trans (World.alloc_heap_new w _)
  have hVI : I [] V := by rw [hV]; exact hI.alloc _ (hI.alloc _ h0)
  have hVb : Below w0.heap.size w0 V := by
    rw [hV]
    exact (hb0.alloc hb0.size _).alloc (Nat.le_trans hb0.size (by simp)) _
  rw [← hb] at hI hIx hKb hbody hdone hstop
  refine ⟨b + 1, [{ target := .collected b, args := #[] }], V, { target := .fn (.func gf) lb, args := #[.func (.yield (b + 1)) #[] #[]] }, V, gf, #[.func (.yield (b + 1)) #[] #[]] ++ lb, V, ?_, ?_, ?_, ?_, fun _ => h1, ?_⟩
  · rw [hV, hR, hb]; exact run_enterLoop_outer _ _ _ _ _
  · simp only [resolve, hg]
    simp [go_sem]
  · intro f' hf'
    simp [Target.leads] at hf'
    subst hf'
    exact hFg
  · simp [invoke, go_sem, eg]
  refine (hseq (b + 1) (fun pre W => I pre W ∧ At2 b (R .ready none) W) (fun pre W => ∃ c, Ix c pre W ∧ At2 b (R .done (some c)) W) V hVb ?_ ?_ ?_ ⟨hVI, hV2⟩).mono ?_
  · rw [hVs]
    exact OwnFrom.and (own_up hI (by omega)) (fun s X Y row hs hg' hr => At2.own (b := b) _ () X Y row hs hg' hr)
  · rw [hVs]
    rintro s X Y row ⟨c, hc, h2⟩ hg' hr
    exact ⟨c, own_up (hIx c) (show b ≤ b + 2 by omega) s X Y row hc hg' hr, At2.own (b := b) _ () X Y row h2 hg' hr⟩
  · -- a round
    rintro pre x W ⟨hi, h2⟩ hlen hbig
    rw [hVs] at hbig ⊢
    have hy := run_yield (P := P) (args := encs x) h2.1 (by rw [hR]; exact hps x)
    have hpar : ∀ st pe, (R st pe).params = ps ∧ (R st pe).tmps = a.tmps ∧ (R st pe).fn = fn ∧ (R st pe).assign = assign ∧ (R st pe).body = body := fun st pe => by rw [hR]; exact ⟨rfl, rfl, rfl, rfl, rfl⟩
    obtain ⟨p1, p2, p3, p4, p5⟩ := hpar .ready none
    rw [p1, p2, p3, p4, p5] at hy
    refine ⟨fn, _, assign, body, hy, roundIn_of_wpIn hfn (hassign _ x W _ ?_)⟩
    have hst : (R .ready none).state = .ready := by rw [hR]
    refine ⟨_, run_beginRound h2.1 hst, ?_⟩
    have hbz : ({ R .ready none with state := .busy } : Loop) = R .busy none := by rw [hR]
    rw [hbz]
    have h3 := h2.put (R .busy none)
    have hkb := hKb W (b + 1) _ (.loop (R .busy none)) (by omega) h2.1 rfl rfl
    have hkf : KeepsFrom (b + 2) W (W.putObj (b + 1) (.loop (R .busy none))) := keeps_put _ (by omega)
    refine wpIn_mono (hbody _ pre x _ (hI.putObj _ hi (by omega) h2.1 rfl) hlen (by have := (keeps_put (B := b + 2) (W := W) (.loop (R .busy none)) (show b + 1 < b + 2 by omega)).size; omega)) ?_
    -- the round's end, whichever way it is left
    have fin : ∀ (jump : Option Code) (W3 : World), KeepsFrom b (W.putObj (b + 1) (.loop (R .busy none))) W3 → SameIn (b + 2) m (W.putObj (b + 1) (.loop (R .busy none))) W3 →
        ∃ st, st = (if jump.isNone then LoopState.ready else .done) ∧ (Instr.endRound (b + 1) jump).run P W3 = .ok (.bool jump.isNone) (W3.putObj (b + 1) (.loop (R st jump))) ∧ At2 b (R .busy none) W3 ∧ At2 b (R st jump) (W3.putObj (b + 1) (.loop (R st jump))) ∧ (KeepsFrom (b + 2) W (W3.putObj (b + 1) (.loop (R st jump))) ∧ SameIn (b + 2) m W (W3.putObj (b + 1) (.loop (R st jump)))) := fun jump W3 hk hsm => by
      have h4 := h3.keep hk
      have hr := run_endRound (P := P) jump h4.1
      have he : ({ R .busy none with state := if jump.isNone then .ready else .done, pending := jump } : Loop) = R (if jump.isNone then .ready else .done) jump := by rw [hR]
      rw [he] at hr
      exact ⟨_, rfl, hr, h4, h4.put _, hkf.trans ((keeps_up hk (by omega)).trans (keeps_put _ (by omega))), fun q h1 h2 => (World.putObj_heap_other (by omega)).trans ((hsm q h1 h2).trans (World.putObj_heap_other (by omega)))⟩
    rintro e a3 W3 ⟨hp, hsm⟩
    cases e with
    | normal =>
      obtain ⟨hk3, hkp3, hi3⟩ := hp
      obtain ⟨st, rfl, hr, h4, h5, h6⟩ := fin none W3 hk3 hsm
      exact ⟨_, _, hr, h6, .inl ⟨rfl, ⟨hI.putObj _ hi3 (by omega) h4.1 rfl, h5⟩, hKt hkb (hKt hkp3 (hKb _ _ _ _ (by omega) h4.1 rfl rfl))⟩⟩
    | ret =>
      obtain ⟨st, rfl, hr, h4, h5, h6⟩ := fin (some .ret) W3 hp.1 hsm
      exact ⟨_, _, hr, h6, .inr ⟨rfl, _, (hIx _).putObj _ hp.2 (by omega) h4.1 rfl, h5⟩⟩
    | exit id =>
      obtain ⟨st, rfl, hr, h4, h5, h6⟩ := fin (some (.exit id)) W3 hp.1 hsm
      exact ⟨_, _, hr, h6, .inr ⟨rfl, _, (hIx _).putObj _ hp.2 (by omega) h4.1 rfl, h5⟩⟩
    | goto t =>
      obtain ⟨st, rfl, hr, h4, h5, h6⟩ := fin (some (.goto t)) W3 hp.1 hsm
      exact ⟨_, _, hr, h6, .inr ⟨rfl, _, (hIx _).putObj _ hp.2 (by omega) h4.1 rfl, h5⟩⟩
    | panic ch => exact hp.elim
    | outgrown => exact hp.elim
  · -- behind the sequence
    have hpe : ∀ st pe, (R st pe).pending = pe ∧ (R st pe).state = st := fun st pe => by rw [hR]; exact ⟨rfl, rfl⟩
    rintro e W2 ⟨⟨v, rfl⟩, (⟨xs, hS, hi, h2⟩ | ⟨pre, hSp, c, hi, h2⟩)⟩
    · have hr := run_endLoop (P := P) h2.1 (by rw [(hpe _ _).2]; simp)
      rw [(hpe _ _).1] at hr
      exact ⟨none, _, hr, hdone b xs _ (Nat.le_refl _) hS (hI.putObj _ hi (by omega) h2.1 rfl) (h2.put _).2⟩
    · have hr := run_endLoop (P := P) h2.1 (by rw [(hpe _ _).2]; simp)
      rw [(hpe _ _).1] at hr
      exact ⟨some c, _, hr, hstop b c pre _ (Nat.le_refl _) hSp ((hIx c).putObj _ hi (by omega) h2.1 rfl) (h2.put _).2⟩

end Go.Proofs.Ytcebnoapgceodaa.rgR
