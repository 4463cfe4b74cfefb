/-
  store, plainly: the keys from one on, told in parts.
  Sequences that lay rows of their own between rounds: what such a sequence owes, and the law of a loop over one (of no package). The rounds leave every block as it lay that is not older than the sequence's call.
  store: Range: what belongs to the keys from one on, ahead of another one, behind a commit; the contract of its sequence.
  store: Range: its closure, and the contract of its sequence.
  mailbaglaw09.At, plainly: what the writes up to a commit come to, and that a store tells just that.
  mailbaglaw09.At: its walk.
  mailbaglaw09.shows, plainly: a store behind commits tells what At comes to.
  mailbaglaw09.shows: its walk.
  store: keys of the stores that made makes; shows of such a store beside what At comes to.
-/
import Derived.Test.YtcebnoapgceodaaStKyM
import Derived.Test.YtcebnoapgceodaaRangeR
section
namespace Go.Proofs.Ytcebnoapgceodaa.sT
open Go.RowKit Go.Proofs.Ytcebnoapgceodaa.tC

set_option linter.unusedVariables false
set_option linter.unusedSimpArgs false

theorem lt_zero8 : ∀ (p k : List UInt8), p < k ++ [0] ↔ ¬ k < p
  | [], [] => by simp
  | [], b :: k => by simp
  | a :: r, [] => by
    simp only [List.nil_append]
    constructor
    · intro h
      rcases List.cons_lt_cons_iff.1 h with h | ⟨_, h⟩
      · exact absurd h (by simp [UInt8.lt_iff_toNat_lt])
      · exact absurd h (List.not_lt_nil _)
    · intro h; exact absurd (List.nil_lt_cons a r) h
  | a :: r, b :: k => by
    have ih := lt_zero8 r k
    rw [List.cons_append, List.cons_lt_cons_iff, List.cons_lt_cons_iff, ih]
    constructor
    · rintro (h | ⟨h, h2⟩) (h3 | ⟨h3, h4⟩)
      · exact absurd h3 (by rw [UInt8.lt_iff_toNat_lt] at h ⊢; omega)
      · rw [h3] at h; exact absurd h (by rw [UInt8.lt_iff_toNat_lt]; omega)
      · rw [h] at h3; exact absurd h3 (by rw [UInt8.lt_iff_toNat_lt]; omega)
      · exact h2 h4
    · intro h
      by_cases e : a = b
      · exact .inr ⟨e, fun h2 => h (.inr ⟨e.symm, h2⟩)⟩
      · refine .inl ?_
        have h1 : ¬ b < a := fun h2 => h (.inl h2)
        rw [UInt8.lt_iff_toNat_lt] at h1 ⊢
        have : a.toNat ≠ b.toNat := fun h2 => e (UInt8.toNat_inj.1 h2)
        omega

/-- the least key behind a key -/
def nextK (k : ByteArray) : ByteArray := k ++ ⟨#[0]⟩
theorem lt_next (p k : ByteArray) : Lt p (nextK k) ↔ ¬ Lt k p := by
  unfold Lt nextK
  have e : (k ++ (⟨#[0]⟩ : ByteArray)).data.toList = k.data.toList ++ [0] := by simp
  rw [e]
  exact lt_zero8 _ _

theorem takeW_filter {f : ByteArray × List Ver → Bool} : ∀ {l : KL}, RiseM l → (∀ p q, Lt p.1 q.1 → f q = true → f p = true) → l.takeWhile f = l.filter f
  | [], _, _ => rfl
  | a :: r, h, hf => by
    obtain ⟨h1, h2⟩ := List.pairwise_cons.1 h
    rw [List.takeWhile_cons, List.filter_cons, takeW_filter h2 hf]
    cases ha : f a with
    | true => rfl
    | false =>
      have : r.filter f = [] := List.filter_eq_nil_iff.2 fun q hq hfq => by
        have := hf a q (h1 q hq) hfq
        rw [ha] at this
        cases this
      simp [this]
theorem inM_down (to : ByteArray) (p q : ByteArray × List Ver) (h : Lt p.1 q.1) (hq : inM to q = true) : inM to p = true := by
  unfold inM at hq ⊢
  rw [Bool.or_eq_true] at hq ⊢
  refine hq.imp id fun h2 => ?_
  rw [Lib.toList_data, Lib.toList_data, bytesLess_eq] at h2 ⊢
  exact decide_eq_true (Lt.trans h (of_decide_eq_true h2))
theorem rangeM_is {ks : KL} (hr : RiseM ks) (fr to : ByteArray) : rangeM ks fr to = ks.filter fun p => !decide (Lt p.1 fr) && inM to p := by
  unfold rangeM
  rw [takeW_filter (List.Pairwise.sublist List.filter_sublist hr) (inM_down to), List.filter_filter]
  congr 1
  funext p
  rw [Bool.and_comm]

theorem valM_key {seq : Int} {p : ByteArray × List Ver} {w : Wr} (h : valM seq p = some w) : w.key = p.1 := by
  unfold valM at h
  split at h
  · injection h with h; rw [← h]
  · cases h
theorem fm_rise (seq : Int) : ∀ {l : KL}, RiseM l → RiseW (l.filterMap (valM seq))
  | [], _ => List.Pairwise.nil
  | a :: r, h => by
    obtain ⟨h1, h2⟩ := List.pairwise_cons.1 h
    rw [List.filterMap_cons]
    cases ha : valM seq a with
    | none => exact fm_rise seq h2
    | some w =>
      refine List.pairwise_cons.2 ⟨fun y hy => ?_, fm_rise seq h2⟩
      obtain ⟨q, hq, hqy⟩ := List.mem_filterMap.1 hy
      rw [valM_key ha, valM_key hqy]
      exact h1 q hq
theorem fm_filter (seq : Int) (f : ByteArray → Bool) : ∀ (l : KL), (l.filter fun p => f p.1).filterMap (valM seq) = (l.filterMap (valM seq)).filter fun w => f w.key
  | [] => rfl
  | a :: r => by
    have ih := fm_filter seq f r
    cases ha : valM seq a with
    | none =>
      rw [List.filterMap_cons, ha]
      cases hf : f a.1 with
      | true => rw [List.filter_cons_of_pos (p := fun p : ByteArray × List Ver => f p.1) hf, List.filterMap_cons, ha]; exact ih
      | false => rw [List.filter_cons_of_neg (p := fun p : ByteArray × List Ver => f p.1) (by simp [hf])]; exact ih
    | some w =>
      rw [List.filterMap_cons, ha]
      have hk := valM_key ha
      cases hf : f a.1 with
      | true =>
        rw [List.filter_cons_of_pos (p := fun p : ByteArray × List Ver => f p.1) hf, List.filterMap_cons, ha]
        simp only
        rw [List.filter_cons_of_pos (p := fun w : Wr => f w.key) (by rw [hk]; exact hf), ih]
      | false =>
        rw [List.filter_cons_of_neg (p := fun p : ByteArray × List Ver => f p.1) (by simp [hf])]
        simp only
        rw [List.filter_cons_of_neg (p := fun w : Wr => f w.key) (by rw [hk]; simp [hf]), ih]
theorem drop_rise {l : List Wr} (h : RiseW l) (n : Nat) (hn : n < l.length) : l.drop (n + 1) = l.filter fun w => decide (Lt (l[n]).key w.key) := by
  have e : l = l.take (n + 1) ++ l.drop (n + 1) := by rw [List.take_append_drop]
  have e1 : (l.take (n + 1)).filter (fun w => decide (Lt (l[n]).key w.key)) = [] := List.filter_eq_nil_iff.2 fun w hw => by
    obtain ⟨i, hi, rfl⟩ := List.getElem_of_mem hw
    rw [List.length_take] at hi
    rw [List.getElem_take]
    simp only [decide_eq_true_eq]
    by_cases hin : i = n
    · subst hin; exact Lt.irrefl _
    · exact not_lt_of (List.pairwise_iff_getElem.1 h i n (by omega) hn (by omega))
  have e2 : (l.drop (n + 1)).filter (fun w => decide (Lt (l[n]).key w.key)) = l.drop (n + 1) := List.filter_eq_self.2 fun w hw => by
    obtain ⟨i, hi, rfl⟩ := List.getElem_of_mem hw
    rw [List.length_drop] at hi
    rw [List.getElem_drop]
    exact decide_eq_true (List.pairwise_iff_getElem.1 h n (n + 1 + i) hn (by omega) (by omega))
  have e3 : l.filter (fun w => decide (Lt (l[n]).key w.key)) = (l.take (n + 1)).filter (fun w => decide (Lt (l[n]).key w.key)) ++ (l.drop (n + 1)).filter (fun w => decide (Lt (l[n]).key w.key)) := by
    rw [← List.filter_append, List.take_append_drop]
  rw [e3, e1, e2, List.nil_append]

theorem seen_rise {M : StM} (hr : RiseM M.keys) (fr to : ByteArray) (seq : Int) : RiseW (M.seen fr to seq) := by
  unfold StM.seen
  rw [rangeM_is hr]
  exact fm_rise seq (List.Pairwise.sublist List.filter_sublist hr)
theorem seen_from {M : StM} (hr : RiseM M.keys) {fr to : ByteArray} {seq : Int} {w : Wr} (h : w ∈ M.seen fr to seq) : ¬ Lt w.key fr := by
  unfold StM.seen at h
  obtain ⟨p, hp, hw⟩ := List.mem_filterMap.1 h
  rw [rangeM_is hr] at hp
  rw [valM_key hw]
  have := (List.mem_filter.1 hp).2
  rw [Bool.and_eq_true] at this
  simpa using this.1
/-- what is told behind so many -/
theorem seen_next {M : StM} (hr : RiseM M.keys) (fr to : ByteArray) (seq : Int) (n : Nat) (hn : n < (M.seen fr to seq).length) : (M.seen fr to seq).drop (n + 1) = M.seen (nextK ((M.seen fr to seq)[n]).key) to seq := by
  rw [drop_rise (seen_rise hr fr to seq) n hn]
  have hk := seen_from hr (List.getElem_mem hn)
  obtain ⟨k, hkk⟩ : ∃ k, k = ((M.seen fr to seq)[n]).key := ⟨_, rfl⟩
  rw [← hkk] at hk ⊢
  unfold StM.seen
  rw [rangeM_is hr, rangeM_is hr, ← fm_filter seq (fun x => decide (Lt k x)), List.filter_filter]
  congr 2
  funext p
  have h1 := lt_next p.1 k
  by_cases h2 : Lt k p.1
  · have h3 : ¬ Lt p.1 fr := fun h4 => hk (Lt.trans h2 h4)
    have h4 : ¬ Lt p.1 (nextK k) := fun h5 => (h1.1 h5) h2
    simp [h2, h3, h4]
  · have h4 : Lt p.1 (nextK k) := h1.2 h2
    simp [h2, h4]

end Go.Proofs.Ytcebnoapgceodaa.sT
end

section
namespace Go.Proofs.Ytcebnoapgceodaa.rgR
open Go.RowKit

/-- every block from one on lies as it lay -/
def SameAll (B : Nat) (W W' : World) : Prop := ∀ q, B ≤ q → q < W.heap.size → W'.heap[q]? = W.heap[q]?

/-- what is told, one by one: until the end, or until a round says 'no more'; rounds alter no block that is not older than the call -/
def SeqA {α : Type} (F : Fence) (n : Nat) (P : Program) (g : Nat) (lb : Array Value) (encs : α → Array Value) (Kp : World → World → Prop) (S Sp : List α → Prop) (N : Nat) (w : World) : Prop :=
  ∀ (l : Nat) (J Jx : List α → World → Prop) (W : World), Below w.heap.size w W → OwnFrom W.heap.size J → OwnFrom W.heap.size Jx →
    (∀ pre x W1, J pre W1 → pre.length < N → Sp (pre ++ [x]) → W.heap.size ≤ W1.heap.size → YieldAt F (n - 1) P l (encs x) W1 fun e W' =>
      (KeepsFrom W.heap.size W1 W' ∧ SameAll W.heap.size W1 W') ∧ ((e = .returned (.bool true) ∧ J (pre ++ [x]) W' ∧ Kp W1 W') ∨ (e = .returned (.bool false) ∧ Jx (pre ++ [x]) W'))) →
    J [] W →
    CallsIn F n P g (#[.func (.yield l) #[] #[]] ++ lb) W fun e W' => (∃ v, e = .returned v) ∧ ((∃ xs, S xs ∧ J xs W') ∨ (∃ pre, Sp pre ∧ Jx pre W'))

theorem size_putObj (W : World) (k : Nat) (o : Obj) : (W.putObj k o).heap.size = W.heap.size := by simp [World.putObj]

variable {F : Fence} {n : Nat} {P : Program} {w : World}

/-- THE LAW: a loop over such a sequence, at an activation's outermost loop. -/
theorem wpIn_rangeA {α : Type} {g : Operand} {ps : Array Tmp} {assign body : Code} {Q : Exit → Act → World → Prop} {a : Act} {w : World}
    (hro : F.round = none) (h1 : 1 ≤ n) {gf : Nat} {lb : Array Value} (hg : a.eval g = .func (.func gf) #[] lb) (hFg : F.fn gf) (eg : ∀ args w, (callFunc gf args).run P w = .ok (.enter gf args) w)
    {encs : α → Array Value} {Kp : World → World → Prop} {S Sp : List α → Prop} {N : Nat} {w0 : World} (hseq : SeqA F (n - 1) P gf lb encs Kp S Sp N w0)
    (hKt : ∀ {A B C : World}, Kp A B → Kp B C → Kp A C) (hKb : ∀ (W : World) (l : Nat) (o o' : Obj), w.heap.size ≤ l → W.heap[l]? = some o → o.isCells = false → o.isWalk = false → Kp W (W.putObj l o')) (hb0 : Below w0.heap.size w0 w) (hps : ∀ x, (encs x).size = ps.size)
    (I : List α → World → Prop) (Ix : Code → List α → World → Prop) (hI : OwnFrom w.heap.size I) (hIx : ∀ c, OwnFrom w.heap.size (Ix c)) (h0 : I [] w) (a₁ : α → Act)
    (hassign : ∀ (l : Nat) (x : α) (W : World) (K : Act → World → Prop), K (a₁ x) W →
      assign.wpIn (F.inRound l) (n - 1 - 1) P (Exit.then K (fun _ _ _ => False)) { tmps := (ps.zip (encs x)).foldl (fun t (p, v) => t.setIfInBounds p v) a.tmps, defers := [] } W)
    (hbody : ∀ (l : Nat) (pre : List α) (x : α) (W : World), I pre W → pre.length < N → Sp (pre ++ [x]) → w.heap.size + 2 ≤ W.heap.size → body.wpIn (F.inRound l) (n - 1 - 1) P (fun e a' W' => ownPostG w.heap.size Kp I Ix (pre ++ [x]) W e a' W' ∧ SameAll (w.heap.size + 2) W W') (a₁ x) W)
    (hdone : ∀ (D : Nat) (xs : List α) (W : World), w.heap.size ≤ D → S xs → I xs W → W.heap[D]? = some (.deferred (some [])) → Q .normal { a with defers := { target := .collected D, args := #[] } :: a.defers } W)
    (hstop : ∀ (D : Nat) (c : Code) (pre : List α) (W : World), w.heap.size ≤ D → Sp pre → Ix c pre W → W.heap[D]? = some (.deferred (some [])) → c.wpIn F n P Q { a with defers := { target := .collected D, args := #[] } :: a.defers } W) :
    (Code.rangeFunc g ps assign body).wpIn F n P Q a w := by
  refine wpIn_rangeFunc fun fn hfn => ?_
  rw [hro]
  obtain ⟨b, hb⟩ : ∃ b, b = w.heap.size := ⟨_, rfl⟩
  obtain ⟨R, hR⟩ : ∃ R : LoopState → Option Code → Loop, R = fun st pe => { state := st, pending := pe, fn, tmps := a.tmps, params := ps, assign, body, defers := w.heap.size } := ⟨_, rfl⟩
  obtain ⟨V, hV⟩ : ∃ V, V = (w.alloc (.deferred (some []))).alloc (.loop (R .ready none)) := ⟨_, rfl⟩
  have hVs : V.heap.size = b + 2 := by rw [hV, hb]; simp
  have hV2 : At2 b (R .ready none) V := by
    rw [hV, hb]
    refine ⟨?_, ?_⟩
    · have := World.alloc_heap_new (w.alloc (.deferred (some []))) (.loop (R .ready none))
      rwa [World.size_alloc] at this
    · exact (Below.heap_alloc _ _ _ (by simp)).trans (World.alloc_heap_new w _)
  have hVI : I [] V := by rw [hV]; exact hI.alloc _ (hI.alloc _ h0)
  have hVb : Below w0.heap.size w0 V := by
    rw [hV]
    exact (hb0.alloc hb0.size _).alloc (Nat.le_trans hb0.size (by simp)) _
  rw [← hb] at hI hIx hKb hbody hdone hstop
  refine ⟨b + 1, [{ target := .collected b, args := #[] }], V, { target := .fn (.func gf) lb, args := #[.func (.yield (b + 1)) #[] #[]] }, V, gf, #[.func (.yield (b + 1)) #[] #[]] ++ lb, V, ?_, ?_, ?_, ?_, fun _ => h1, ?_⟩
  · rw [hV, hR, hb]; exact run_enterLoop_outer _ _ _ _ _
  · simp only [resolve, hg]
    simp [go_sem]
  · intro f' hf'
    simp [Target.leads] at hf'
    subst hf'
    exact hFg
  · simp [invoke, go_sem, eg]
  refine (hseq (b + 1) (fun pre W => I pre W ∧ At2 b (R .ready none) W) (fun pre W => ∃ c, Ix c pre W ∧ At2 b (R .done (some c)) W) V hVb ?_ ?_ ?_ ⟨hVI, hV2⟩).mono ?_
  · rw [hVs]
    exact OwnFrom.and (own_up hI (by omega)) (fun s X Y row hs hg' hr => At2.own (b := b) _ () X Y row hs hg' hr)
  · rw [hVs]
    rintro s X Y row ⟨c, hc, h2⟩ hg' hr
    exact ⟨c, own_up (hIx c) (show b ≤ b + 2 by omega) s X Y row hc hg' hr, At2.own (b := b) _ () X Y row h2 hg' hr⟩
  · -- a round
    rintro pre x W ⟨hi, h2⟩ hlen hsp hbig
    rw [hVs] at hbig ⊢
    have hy := run_yield (P := P) (args := encs x) h2.1 (by rw [hR]; exact hps x)
    have hpar : ∀ st pe, (R st pe).params = ps ∧ (R st pe).tmps = a.tmps ∧ (R st pe).fn = fn ∧ (R st pe).assign = assign ∧ (R st pe).body = body := fun st pe => by rw [hR]; exact ⟨rfl, rfl, rfl, rfl, rfl⟩
    obtain ⟨p1, p2, p3, p4, p5⟩ := hpar .ready none
    rw [p1, p2, p3, p4, p5] at hy
    refine ⟨fn, _, assign, body, hy, roundIn_of_wpIn hfn (hassign _ x W _ ?_)⟩
    have hst : (R .ready none).state = .ready := by rw [hR]
    refine ⟨_, run_beginRound h2.1 hst, ?_⟩
    have hbz : ({ R .ready none with state := .busy } : Loop) = R .busy none := by rw [hR]
    rw [hbz]
    have h3 := h2.put (R .busy none)
    have hkb := hKb W (b + 1) _ (.loop (R .busy none)) (by omega) h2.1 rfl rfl
    have hkf : KeepsFrom (b + 2) W (W.putObj (b + 1) (.loop (R .busy none))) := keeps_put _ (by omega)
    refine wpIn_mono (hbody _ pre x _ (hI.putObj _ hi (by omega) h2.1 rfl) hlen hsp (by have := (keeps_put (B := b + 2) (W := W) (.loop (R .busy none)) (show b + 1 < b + 2 by omega)).size; omega)) ?_
    -- the round's end, whichever way it is left
    have fin : ∀ (jump : Option Code) (W3 : World), KeepsFrom b (W.putObj (b + 1) (.loop (R .busy none))) W3 → SameAll (b + 2) (W.putObj (b + 1) (.loop (R .busy none))) W3 →
        ∃ st, st = (if jump.isNone then LoopState.ready else .done) ∧ (Instr.endRound (b + 1) jump).run P W3 = .ok (.bool jump.isNone) (W3.putObj (b + 1) (.loop (R st jump))) ∧ At2 b (R .busy none) W3 ∧ At2 b (R st jump) (W3.putObj (b + 1) (.loop (R st jump))) ∧ (KeepsFrom (b + 2) W (W3.putObj (b + 1) (.loop (R st jump))) ∧ SameAll (b + 2) W (W3.putObj (b + 1) (.loop (R st jump)))) := fun jump W3 hk hsm => by
      have h4 := h3.keep hk
      have hr := run_endRound (P := P) jump h4.1
      have he : ({ R .busy none with state := if jump.isNone then .ready else .done, pending := jump } : Loop) = R (if jump.isNone then .ready else .done) jump := by rw [hR]
      rw [he] at hr
      exact ⟨_, rfl, hr, h4, h4.put _, hkf.trans ((keeps_up hk (by omega)).trans (keeps_put _ (by omega))), fun q h1 h2 => (World.putObj_heap_other (by omega)).trans ((hsm q h1 (by rw [size_putObj]; exact h2)).trans (World.putObj_heap_other (by omega)))⟩
    rintro e a3 W3 ⟨hp, hsm⟩
    cases e with
    | normal =>
      obtain ⟨hk3, hkp3, hi3⟩ := hp
      obtain ⟨st, rfl, hr, h4, h5, h6⟩ := fin none W3 hk3 hsm
      exact ⟨_, _, hr, h6, .inl ⟨rfl, ⟨hI.putObj _ hi3 (by omega) h4.1 rfl, h5⟩, hKt hkb (hKt hkp3 (hKb _ _ _ _ (by omega) h4.1 rfl rfl))⟩⟩
    | ret =>
      obtain ⟨st, rfl, hr, h4, h5, h6⟩ := fin (some .ret) W3 hp.1 hsm
      exact ⟨_, _, hr, h6, .inr ⟨rfl, _, (hIx _).putObj _ hp.2 (by omega) h4.1 rfl, h5⟩⟩
    | exit id =>
      obtain ⟨st, rfl, hr, h4, h5, h6⟩ := fin (some (.exit id)) W3 hp.1 hsm
      exact ⟨_, _, hr, h6, .inr ⟨rfl, _, (hIx _).putObj _ hp.2 (by omega) h4.1 rfl, h5⟩⟩
    | goto t =>
      obtain ⟨st, rfl, hr, h4, h5, h6⟩ := fin (some (.goto t)) W3 hp.1 hsm
      exact ⟨_, _, hr, h6, .inr ⟨rfl, _, (hIx _).putObj _ hp.2 (by omega) h4.1 rfl, h5⟩⟩
    | panic ch => exact hp.elim
    | outgrown => exact hp.elim
  · -- behind the sequence
    have hpe : ∀ st pe, (R st pe).pending = pe ∧ (R st pe).state = st := fun st pe => by rw [hR]; exact ⟨rfl, rfl⟩
    rintro e W2 ⟨⟨v, rfl⟩, (⟨xs, hS, hi, h2⟩ | ⟨pre, hSp, c, hi, h2⟩)⟩
    · have hr := run_endLoop (P := P) h2.1 (by rw [(hpe _ _).2]; simp)
      rw [(hpe _ _).1] at hr
      exact ⟨none, _, hr, hdone b xs _ (Nat.le_refl _) hS (hI.putObj _ hi (by omega) h2.1 rfl) (h2.put _).2⟩
    · have hr := run_endLoop (P := P) h2.1 (by rw [(hpe _ _).2]; simp)
      rw [(hpe _ _).1] at hr
      exact ⟨some c, _, hr, hstop b c pre _ (Nat.le_refl _) hSp ((hIx c).putObj _ hi (by omega) h2.1 rfl) (h2.put _).2⟩

end Go.Proofs.Ytcebnoapgceodaa.rgR
end

section
namespace Go.Proofs.Ytcebnoapgceodaa.sT
open Go.RowKit Go.Proofs.Ytcebnoapgceodaa.tC Go.Proofs.Ytcebnoapgceodaa.rgR

set_option linter.unusedVariables false
set_option linter.unusedSimpArgs false
attribute [local go_sem] Oper.semAt_some

/-- what belongs to the keys from one on, ahead of another one, the store telling of it -/
def StM.look (M : StM) (to : ByteArray) (seq : Int) (fr : ByteArray) : List Wr := if M.tells seq then M.seen fr to seq else []
theorem look_next {M : StM} (hr : RiseM M.keys) (fr to : ByteArray) (seq : Int) (n : Nat) (hn : n < (M.look to seq fr).length) : (M.look to seq fr).drop (n + 1) = M.look to seq (nextK ((M.look to seq fr)[n]).key) := by
  unfold StM.look at hn ⊢
  by_cases ht : M.tells seq = true
  · simp only [ht, if_true] at hn ⊢
    exact seen_next hr fr to seq n hn
  · simp [ht] at hn

def strOf : Value → ByteArray | .string s => s | _ => ⟨#[]⟩

/-- what comes of a sequence -/
def ToldW (xs : List Wr) (J Jx : List Wr → World → Prop) (e : Ending) (W' : World) : Prop := (∃ v, e = .returned v) ∧ ((∃ ys, ys = xs ∧ J ys W') ∨ (∃ pre, pre <+: xs ∧ Jx pre W'))

/-- rows that a sequence laid lie as they lay -/
def KeepS (B : Nat) (wS w : World) : Prop := wS.heap.size ≤ w.heap.size ∧ SameAll B wS w

theorem look_key {M : StM} (h : ∀ p ∈ M.keys, p.1.size ≤ 400) (to : ByteArray) (seq : Int) (fr : ByteArray) : ∀ x ∈ M.look to seq fr, x.key.size ≤ 400 := fun x hx => by
  unfold StM.look at hx
  split at hx
  · unfold StM.seen at hx
    obtain ⟨p, hp, hw⟩ := List.mem_filterMap.1 hx
    rw [valM_key hw]
    exact h p (List.mem_filter.1 ((List.takeWhile_sublist _).subset hp)).1
  · simp at hx

theorem StoreAt.kp {P B : Nat → Prop} {n0 : Nat} {W W' : World} {s : Nat} {M : StM} (h : StoreAt P W s M) (hk : KpB B n0 W W') (hB : ∀ q, P q → B q ∧ q < n0) : StoreAt P W' s M := by
  obtain ⟨cv, wvs, ls, BT, BC, BM, h⟩ := h
  exact ⟨cv, wvs, ls, BT, BC, BM, h.keep hk.1 fun q hq _ _ => ⟨hk.2 q (hB q hq).1 (hB q hq).2, hq⟩⟩

set_option maxHeartbeats 4000000 in
set_option maxRecDepth 100000 in
theorem range1_in (n l bf bs bt bq n0 : Nat) (P B : Nat → Prop) (s : Nat) (M : StM) (fr to : ByteArray) (seq : Int) {N : Nat} (hg : SG M N) (hN : N ≤ 900000) (hkey : ∀ p ∈ M.keys, p.1.size ≤ 400) (J Jx : List Wr → World → Prop) (W : World) (hPB : ∀ q, P q → B q ∧ q < n0) (hn0 : n0 ≤ W.heap.size) (hSt : StoreAt P W s M)
    (hJ : OwnFrom W.heap.size J)
    (hY : ∀ pre x W1, J pre W1 → pre.length < (M.look to seq fr).length → pre ++ [x] <+: M.look to seq fr → W.heap.size ≤ W1.heap.size → YieldAt Fence.wide (n - 1) Try.prog l #[.string x.key, .string x.val] W1 fun e W' =>
      (KeepsFrom W.heap.size W1 W' ∧ SameAll W.heap.size W1 W') ∧ ((e = .returned (.bool true) ∧ J (pre ++ [x]) W' ∧ KpB B n0 W1 W') ∨ (e = .returned (.bool false) ∧ Jx (pre ++ [x]) W')))
    (hbf : W.cell? ⟨bf, 0, none⟩ = some (.string fr)) (hbs : W.cell? ⟨bs, 0, none⟩ = some (.pointer (some ⟨s, 0, none⟩))) (hbt : W.cell? ⟨bt, 0, none⟩ = some (.string to)) (hbq : W.cell? ⟨bq, 0, none⟩ = some (.int .i64 seq))
    (hBs : B bs ∧ bs < n0) (hBt : B bt ∧ bt < n0) (hBq : B bq ∧ bq < n0) (h0 : J [] W) :
    CallsIn Fence.wide n Try.prog 58 #[.func (.yield l) #[] #[], .pointer (some ⟨bf, 0, none⟩), .pointer (some ⟨bs, 0, none⟩), .pointer (some ⟨bt, 0, none⟩), .pointer (some ⟨bq, 0, none⟩)] W (ToldW (M.look to seq fr) J Jx) := by
  refine callsIn_wide.2 ?_
  have HS : Hid (∀ w (nx : ByteArray) (mo : Nat), KpB B n0 W w → 0 < mo → mo ≤ 64 → Calls Try.prog 59 #[.pointer (some ⟨s, 0, none⟩), .string nx, .string to, .int .i64 seq, .int .i64 (mo : Int)] w fun e w' => ∃ a c, e = .returned (.slice a ((M.look to seq nx).take mo).length c) ∧ Hid (RowK 48 3 w.heap.size w' (.slice a ((M.look to seq nx).take mo).length c) ((M.look to seq nx).take mo).length (((M.look to seq nx).take mo).flatMap wrcells) ∧ Below w.heap.size w w')) := Lib.hid fun w nx mo hk h1 h2 => by
    refine (seen_any (hSt.kp hk hPB) hg hN nx to seq mo (.inl h1) (by omega)).mono ?_
    rintro e w' ⟨a, c, rfl, k1, k2⟩
    have e1 : (if M.tells seq = true then (M.seen nx to seq).take mo else []) = (M.look to seq nx).take mo := by
      unfold StM.look
      cases M.tells seq <;> simp
    rw [e1] at k1 ⊢
    exact ⟨a, c, rfl, Lib.hid ⟨k1, k2⟩⟩
  have HCE : Hid (∀ w, KpB B n0 W w → w.cell? ⟨bs, 0, none⟩ = some (.pointer (some ⟨s, 0, none⟩)) ∧ w.cell? ⟨bt, 0, none⟩ = some (.string to) ∧ w.cell? ⟨bq, 0, none⟩ = some (.int .i64 seq)) := Lib.hid fun w hk =>
    ⟨(hk.cell hBs.1 hBs.2).trans hbs, (hk.cell hBt.1 hBt.2).trans hbt, (hk.cell hBq.1 hBq.2).trans hbq⟩
  obtain ⟨L, hL⟩ : ∃ L, L = M.look to seq fr := ⟨_, rfl⟩
  rw [← hL] at hY ⊢
  have HNX : Hid (∀ nx m, m < (M.look to seq nx).length → (M.look to seq nx).drop (m + 1) = M.look to seq (nextK (((M.look to seq nx)[m]?).getD ⟨⟨#[]⟩, ⟨#[]⟩, false⟩).key)) := Lib.hid fun nx m h => by
    rw [List.getElem?_eq_getElem h, Option.getD_some]
    exact look_next hg.rise nx to seq m h
  have HXK : Hid (∀ x ∈ L, x.key.size ≤ 400) := Lib.hid (by rw [hL]; exact look_key hkey to seq fr)
  have HJ := Lib.hid hJ
  have HY := Lib.hid hY
  have H0 := Lib.hid h0
  have HL := Lib.hid hL
  have hnW : n0 ≤ W.heap.size := hn0
  clear hJ hY h0 hL hSt hg hkey hPB hBs hBt hBq hbs hbt hbq
  go_enter Try.func58, Try.ntmps58
  go_wp2_with fail
  refine (wpIn_wide (n := n)).1 ?_
  gi_loopw [6, 7] (fun v u wr => ∃ (k : Nat) (nx : ByteArray) (mo : Nat), v = .string nx ∧ u = .int .i64 (mo : Int) ∧ 0 < mo ∧ mo ≤ 64 ∧ Hid (k ≤ L.length ∧ L.drop k = M.look to seq nx) ∧ Hid (J (L.take k) wr) ∧ Hid (KpB B n0 W wr)) (fun v _ _ => (M.look to seq (strOf v)).length)
  case atStart => exact ⟨0, fr, 1, rfl, rfl, by omega, by omega, Lib.hid ⟨Nat.zero_le _, by rw [List.drop_zero, HL.out]⟩, by rw [List.take_zero]; exact H0, Lib.hid (KpB.refl _ _ _)⟩
  case round =>
    obtain ⟨k, nx, mo, rfl, rfl, hm0, hm1, hLk, hJs, hKp⟩ := hrel
    obtain ⟨wo, hwo⟩ : ∃ wo, wo = wr := ⟨_, rfl⟩
    subst hwo
    obtain ⟨m, rfl⟩ : ∃ m, mo = m + 1 := ⟨mo - 1, by omega⟩
    obtain ⟨hc1, hc2, hc3⟩ := HCE.out wo hKp.out
    have HSC := Lib.hid (HS.out wo nx (m + 1) hKp.out hm0 hm1)
    rw [show (((m + 1 : Nat)) : Int) = (m : Int) + 1 by omega] at HSC
    obtain ⟨L1, hL1⟩ : ∃ L1, L1 = (M.look to seq nx).take (m + 1) := ⟨_, rfl⟩
    rw [← hL1] at HSC
    obtain ⟨n1, hn1⟩ : ∃ n1, n1 = L1.length := ⟨_, rfl⟩
    rw [← hn1] at HSC
    have hn1m : n1 ≤ m + 1 := by rw [hn1, hL1, List.length_take]; omega
    have HL1 : Hid (L1 = (L.drop k).take (m + 1)) := Lib.hid (by rw [hLk.out.2, hL1])
    have HN1 := Lib.hid hn1
    clear hL1 hn1
    gi_wp2_with fail
    refine ⟨trivial, fun h => (by simp [Fence.wide] at h), (callsIn_wide.2 HSC.out).mono ?_⟩
    rintro e wS ⟨a, c, rfl, hRow⟩
    have hws : W.heap.size ≤ wo.heap.size := hKp.out.1
    have HJ2 : Hid (J (L.take k) wS) := Lib.hid (HJ.out _ _ _ none hJs.out (below_grown hRow.out.2) (fun r e => by cases e))
    have HK2 : Hid (KpB B n0 W wS) := Lib.hid (hKp.out.trans (KpB.below hRow.out.2 (by omega)))
    have HW1 : Hid (WrsIs wS a L1 ∧ ∀ b, (Value.slice a n1 c).ownBlock = some b → W.heap.size ≤ b) := Lib.hid (by
      have k1 := hRow.out.1
      refine ⟨?_, fun b hb => by have := (k1.lt b hb).1; omega⟩
      rw [HN1.out] at k1
      obtain ⟨ga2, gc2, e3, hgw⟩ := wrs_of_row (B := fun _ => True) (v := .slice a L1.length c) (ws := L1) ⟨k1.keep fun q hq => ⟨rfl, Nat.zero_le _⟩, fun _ _ => trivial⟩
      injection e3 with e4
      subst e4
      exact hgw)
    clear hRow HSC hJs hKp hc1 hc2 hc3
    gi_wp2_with fail
    gi_loopw [23] (fun iv wr => ∃ j : Nat, j ≤ n1 ∧ iv = .int .i64 (j : Int) ∧ Hid (J (L.take (k + j)) wr) ∧ Hid (KpB B n0 W wr) ∧ Hid (KeepS W.heap.size wS wr)) (fun iv _ => n1 - (intOf iv).toNat)
    case atStart => exact ⟨0, Nat.zero_le _, rfl, HJ2, HK2, Lib.hid ⟨Nat.le_refl _, fun q _ _ => rfl⟩⟩
    case round =>
      obtain ⟨j, hj, rfl, hJ3, hK3, hS3⟩ := hrel
      clear HJ2 HK2
      have hcell : ∀ b i, W.heap.size ≤ b → b < wS.heap.size → wr.cell? ⟨b, i, none⟩ = wS.cell? ⟨b, i, none⟩ := fun b i h1 h2 => World.cell?_of_block (a := ⟨b, i, none⟩) (hS3.out.2 b h1 h2)
      have HCELL := Lib.hid hcell
      clear hcell
      by_cases hjl : j < n1
      · have hjI : (j : Int) < (n1 : Int) := by omega
        have hjL : j < L1.length := by rw [← HN1.out]; exact hjl
        obtain ⟨b4, off4, e4, hblt4, ⟨r0, r1, r2⟩, _⟩ := HW1.out.1.at_ j hjL
        subst e4
        have hb4 : W.heap.size ≤ b4 := HW1.out.2 b4 rfl
        replace r0 := (HCELL.out b4 (off4 + j * 3) hb4 hblt4).trans r0
        replace r1 := (HCELL.out b4 (off4 + j * 3 + 1) hb4 hblt4).trans r1
        replace r2 := (HCELL.out b4 (off4 + j * 3 + 2) hb4 hblt4).trans r2
        have hLl : L1.length ≤ L.length - k := by rw [HL1.out, List.length_take, List.length_drop]; omega
        have hkj : k + j < L.length := by omega
        have hLx : L1[j] = L[k + j] := by
          have : L1[j]? = L[k + j]? := by rw [HL1.out, List.getElem?_take_of_lt (by omega), List.getElem?_drop]
          rw [List.getElem?_eq_getElem hjL, List.getElem?_eq_getElem hkj] at this
          exact Option.some.inj this
        have hT : L.take (k + (j + 1)) = L.take (k + j) ++ [L1[j]] := by
          rw [hLx, ← Nat.add_assoc, List.take_succ_eq_append_getElem hkj]
        obtain ⟨x, hx⟩ : ∃ x, x = L1[j] := ⟨_, rfl⟩
        rw [← hx] at r0 r1 r2 hT
        have HT := Lib.hid hT
        have HPRE : Hid (L.take (k + j) ++ [x] <+: L) := Lib.hid (by rw [← hT]; exact List.take_prefix _ _)
        have hwb : W.heap.size ≤ wr.heap.size := hK3.out.1
        have hJ4 := HJ.out.alloc (.cells #[.string x.key, .string x.val, .bool x.gone] 48) hJ3.out
        have HK4 : Hid (KpB B n0 W (wr.alloc (.cells #[.string x.key, .string x.val, .bool x.gone] 48))) := Lib.hid (hK3.out.trans (KpB.below ((Below.refl wr.heap.size wr).alloc (Nat.le_refl _) _) (by omega)))
        have HS4 : Hid (KeepS W.heap.size wS (wr.alloc (.cells #[.string x.key, .string x.val, .bool x.gone] 48))) := Lib.hid ⟨by rw [World.size_alloc]; have := hS3.out.1; omega, fun q h1 h2 => (Below.heap_alloc wr _ q (by have := hS3.out.1; omega)).trans (hS3.out.2 q h1 h2)⟩
        obtain ⟨fn, tmps, assign, body, hy, hR⟩ := HY.out _ x _ hJ4 (by rw [List.length_take]; omega) HPRE.out (by rw [World.size_alloc]; omega)
        obtain ⟨xk, xv, xg⟩ := x
        simp only at r0 r1 r2 hy hR HK4 HS4
        clear hx hT hLx hLl hJ4 hJ3 hK3 hS3 HCELL hjL
        gi_wp2
        refine ⟨fun h => (by simp [Fence.wide] at h), hR.mono ?_⟩
        rintro e W3 ⟨⟨hkf, hsa⟩, (⟨rfl, hJ5, hk5⟩ | ⟨rfl, hJx⟩)⟩
        · have HJ5 : Hid (J (L.take (k + (j + 1))) W3) := Lib.hid (by rw [HT.out]; exact hJ5)
          have HK6 := Lib.hid (HK4.out.trans hk5)
          have HS6 : Hid (KeepS W.heap.size wS W3) := Lib.hid ⟨Nat.le_trans HS4.out.1 hkf.size, fun q h1 h2 => (hsa q h1 (Nat.lt_of_lt_of_le h2 HS4.out.1)).trans (HS4.out.2 q h1 h2)⟩
          clear hJ5 hk5 hR hy hkf hsa HK4 HS4
          gi_wp2
          go_roundw
          case rel => exact ⟨j + 1, by omega, by go_num, HJ5, HK6, HS6⟩
          case measure => simp [intOf]; omega
        · have HJX := Lib.hid hJx
          clear hJx hR hy hkf hsa HK4 HS4
          gi_wp2
          refine bodyPost_ret (results_none rfl _ _ _) rfl ?_
          exact ⟨⟨_, rfl⟩, .inr ⟨_, HPRE.out, HJX.out⟩⟩
      · obtain rfl : j = n1 := by omega
        have hjI : ¬ (j : Int) < (j : Int) := by omega
        have hlen : j = min (m + 1) (L.length - k) := by rw [HN1.out, HL1.out, List.length_take, List.length_drop]
        by_cases hs : j < m + 1
        · have hsI : (j : Int) < ((m : Int) + 1) := by omega
          have HE : Hid (J L wr) := Lib.hid (by
            have := hJ3.out
            rwa [List.take_of_length_le (by omega)] at this)
          clear hJ3 hK3 hS3 HCELL
          gi_wp2
          refine bodyPost_ret (results_none rfl _ _ _) rfl ?_
          exact ⟨⟨_, rfl⟩, .inl ⟨_, rfl, HE.out⟩⟩
        · obtain rfl : j = m + 1 := by omega
          have hmL : m < L1.length := by rw [← HN1.out]; omega
          obtain ⟨b4, off4, e4, hblt4, ⟨r0, _, _⟩, _⟩ := HW1.out.1.at_ m hmL
          subst e4
          have hb4 : W.heap.size ≤ b4 := HW1.out.2 b4 rfl
          replace r0 := (HCELL.out b4 (off4 + m * 3) hb4 hblt4).trans r0
          obtain ⟨xk, hxk⟩ : ∃ xk, xk = (L1[m]).key := ⟨_, rfl⟩
          rw [← hxk] at r0
          have hkm : k + m < L.length := by omega
          have hLx : (L.drop k)[m]? = some L1[m] := by
            have : L1[m]? = (L.drop k)[m]? := by rw [HL1.out, List.getElem?_take_of_lt (by omega)]
            rw [← this, List.getElem?_eq_getElem hmL]
          have hlk : L.drop (k + (m + 1)) = M.look to seq (nextK xk) := by
            have h1 := HNX.out nx m (by rw [← hLk.out.2, List.length_drop]; omega)
            rw [← hLk.out.2, List.drop_drop, hLx, Option.getD_some, ← hxk] at h1
            exact h1
          have HM : Hid ((M.look to seq (nextK xk)).length < (M.look to seq nx).length) := Lib.hid (by rw [← hlk, ← hLk.out.2, List.length_drop, List.length_drop]; omega)
          have HLK : Hid (k + (m + 1) ≤ L.length ∧ L.drop (k + (m + 1)) = M.look to seq (nextK xk)) := Lib.hid ⟨by omega, hlk⟩
          have hxs : xk.size ≤ 400 := by rw [hxk]; exact HXK.out _ (List.mem_of_mem_drop (i := k) (List.mem_of_getElem? hLx))
          have hxs2 : ¬ 9223372036854775807 < xk.size + 1 := by omega
          have hw1 : IntKind.i64.wrap ((m : Int) + 1 - 1) = (m : Int) := by rw [IntKind.wrap_i64]; omega
          have hw2 : IntKind.i64.wrap (m : Int) = (m : Int) := by rw [IntKind.wrap_i64]; omega
          have hw3 : IntKind.i64.wrap (2 * ((m : Int) + 1)) = 2 * ((m : Int) + 1) := by rw [IntKind.wrap_i64]; omega
          have hmI : (m : Int) < (m : Int) + 1 := by omega
          have hm00 : (0 : Int) ≤ (m : Int) := by omega
          have hm01 : ¬ (m : Int) < 0 := by omega
          clear hLx hlk hxk hLk hS3 HCELL hlen
          gi_wp2
          go_roundw
          case rel => exact ⟨k + (m + 1), nextK xk, min (2 * (m + 1)) 64, rfl, by go_num, by omega, by omega, HLK, hJ3, hK3⟩
          case measure => exact HM.out

end Go.Proofs.Ytcebnoapgceodaa.sT
end

section
namespace Go.Proofs.Ytcebnoapgceodaa.sT
open Go.RowKit Go.Proofs.Ytcebnoapgceodaa.tC Go.Proofs.Ytcebnoapgceodaa.rgR

set_option linter.unusedVariables false
set_option linter.unusedSimpArgs false
attribute [local go_sem] Oper.semAt_some

theorem stRange_any (ps : Option Addr) (fr to : ByteArray) (seq : Int) (w : World) :
    Calls Try.prog 22 #[.pointer ps, .string fr, .string to, .int .i64 seq] w fun e w' => e = .returned (.func (.func 58) #[] #[.pointer (some ⟨w.heap.size + 1, 0, none⟩), .pointer (some ⟨w.heap.size, 0, none⟩), .pointer (some ⟨w.heap.size + 2, 0, none⟩), .pointer (some ⟨w.heap.size + 3, 0, none⟩)]) ∧
      w' = (((w.alloc (.cells #[.pointer ps] 29)).alloc (.cells #[.string fr] 9)).alloc (.cells #[.string to] 9)).alloc (.cells #[.int .i64 seq] 3) := by
  go_enter Try.func22, Try.ntmps22
  go_wp2
  go_ret
  exact ⟨rfl, rfl⟩

theorem range_seqS (n bf bs bt bq n0 : Nat) (P B : Nat → Prop) (s : Nat) (M : StM) (fr to : ByteArray) (seq : Int) {N : Nat} (hg : SG M N) (hN : N ≤ 900000) (hkey : ∀ p ∈ M.keys, p.1.size ≤ 400) (w : World) (hPB : ∀ q, P q → B q ∧ q < n0) (hn0 : n0 ≤ w.heap.size) (hSt : StoreAt P w s M)
    (hbf : w.cell? ⟨bf, 0, none⟩ = some (.string fr)) (hbs : w.cell? ⟨bs, 0, none⟩ = some (.pointer (some ⟨s, 0, none⟩))) (hbt : w.cell? ⟨bt, 0, none⟩ = some (.string to)) (hbq : w.cell? ⟨bq, 0, none⟩ = some (.int .i64 seq)) (hlf : bf < w.heap.size)
    (hBs : B bs ∧ bs < n0) (hBt : B bt ∧ bt < n0) (hBq : B bq ∧ bq < n0) :
    SeqA Fence.wide n Try.prog 58 #[.pointer (some ⟨bf, 0, none⟩), .pointer (some ⟨bs, 0, none⟩), .pointer (some ⟨bt, 0, none⟩), .pointer (some ⟨bq, 0, none⟩)] (fun x : Wr => #[.string x.key, .string x.val]) (KpB B n0)
      (fun ys => ys = M.look to seq fr) (fun pre => pre <+: M.look to seq fr) (M.look to seq fr).length w := fun l J Jx W hW hJ hJx hY h0 => by
  have hsz := hW.size
  refine (range1_in n l bf bs bt bq n0 P B s M fr to seq hg hN hkey J Jx W hPB (by omega) (hSt.below hW) hJ hY ((hW.cell (p := ⟨bf, 0, none⟩) hlf).trans hbf) ((hW.cell (p := ⟨bs, 0, none⟩) (by show bs < _; omega)).trans hbs) ((hW.cell (p := ⟨bt, 0, none⟩) (by show bt < _; omega)).trans hbt) ((hW.cell (p := ⟨bq, 0, none⟩) (by show bq < _; omega)).trans hbq) hBs hBt hBq h0).mono ?_
  rintro e W' ⟨h1, (⟨ks, rfl, h2⟩ | ⟨pre, h2, h3⟩)⟩
  · exact ⟨h1, .inl ⟨_, rfl, h2⟩⟩
  · exact ⟨h1, .inr ⟨pre, h2, h3⟩⟩

end Go.Proofs.Ytcebnoapgceodaa.sT
end

section
namespace Go.Proofs.Ytcebnoapgceodaa.sT
open Go.RowKit Go.Proofs.Ytcebnoapgceodaa.tC

set_option linter.unusedVariables false
set_option linter.unusedSimpArgs false

def delK (m : List KV) (key : ByteArray) : List KV := m.filter fun p => decide (p.1 ≠ key)
/-- one write more -/
def putA (m : List KV) (w : Wr) : List KV := if w.gone then delK m w.key else putK m w.key (.string w.val)
def atM (ws : List Wr) : List KV := ws.foldl putA []

theorem delK_rise {m : List KV} (h : RiseB (keysOf m)) (key : ByteArray) : RiseB (keysOf (delK m key)) := by
  unfold RiseB keysOf delK at *
  exact h.sublist (List.filter_sublist.map _)
theorem putK_rise {m : List KV} (h : RiseB (keysOf m)) (key : ByteArray) (v : Value) : RiseB (keysOf (putK m key v)) := by
  unfold RiseB keysOf putK at *
  rw [List.map_append, List.map_cons]
  refine List.pairwise_append.2 ⟨h.sublist (List.filter_sublist.map _), List.pairwise_cons.2 ⟨fun y hy => ?_, h.sublist (List.filter_sublist.map _)⟩, fun y hy z hz => ?_⟩
  · obtain ⟨p, hp, rfl⟩ := List.mem_map.1 hy
    simpa using (List.mem_filter.1 hp).2
  · obtain ⟨p, hp, rfl⟩ := List.mem_map.1 hy
    have h1 : Lt p.1 key := by simpa using (List.mem_filter.1 hp).2
    rcases List.mem_cons.1 hz with rfl | hz
    · exact h1
    · obtain ⟨q, hq, rfl⟩ := List.mem_map.1 hz
      exact Lt.trans h1 (by simpa using (List.mem_filter.1 hq).2)
theorem putA_rise {m : List KV} (h : RiseB (keysOf m)) (w : Wr) : RiseB (keysOf (putA m w)) := by
  unfold putA
  split
  · exact delK_rise h _
  · exact putK_rise h _ _
theorem getK_put {m : List KV} (h : RiseB (keysOf m)) (key : ByteArray) (v : Value) (j : ByteArray) : getK (putK m key v) j = if key = j then some v else getK m j := by
  rw [← get_map, ← put_map h, getS_put, get_map]
  by_cases e : key = j
  · subst e; simp
  · have : ¬ key.data.toList = j.data.toList := fun h2 => e (ByteArray.ext (Array.toList_inj.1 h2))
    simp [e, this]
theorem getK_del (m : List KV) (key j : ByteArray) : getK (delK m key) j = if key = j then none else getK m j := by
  unfold getK delK
  by_cases e : key = j
  · subst e
    rw [if_pos rfl, Option.map_eq_none_iff, List.find?_eq_none]
    intro p hp
    have := (List.mem_filter.1 hp).2
    simpa using this
  · rw [if_neg e]
    congr 1
    induction m with
    | nil => rfl
    | cons p r ih =>
      by_cases hp : p.1 = key
      · rw [List.filter_cons_of_neg (by simpa using hp), ih, List.find?_cons_of_neg (by simp; rw [hp]; exact e)]
      · rw [List.filter_cons_of_pos (by simpa using hp), List.find?_cons, List.find?_cons, ih]
theorem del_map (m : List KV) (key : ByteArray) : delS key.data.toList (toF m) = toF (delK m key) := by
  unfold delS toF delK
  rw [List.filter_map]
  congr 2
  funext p
  simp only [Function.comp, key_eq]
  by_cases e : p.1 = key <;> simp [e]
theorem atM_snoc (ws : List Wr) (w : Wr) : atM (ws ++ [w]) = putA (atM ws) w := by unfold atM; rw [List.foldl_append]; rfl
/-- what a key has behind writes -/
def lastW (ws : List Wr) (key : ByteArray) : Option Value := match (ws.filter fun w => decide (w.key = key)).getLast? with | none => none | some w => if w.gone then none else some (.string w.val)
theorem atM_rise (ws : List Wr) : RiseB (keysOf (atM ws)) ∧ ∀ key, getK (atM ws) key = lastW ws key := by
  refine snoc_ind (P := fun ws => RiseB (keysOf (atM ws)) ∧ ∀ key, getK (atM ws) key = lastW ws key) ⟨List.Pairwise.nil, fun key => rfl⟩ (fun r w ih => ?_) ws
  rw [atM_snoc]
  refine ⟨putA_rise ih.1 w, fun key => ?_⟩
  unfold lastW
  rw [List.filter_append]
  by_cases e : w.key = key
  · rw [List.filter_cons_of_pos (by simpa using e), List.filter_nil, List.getLast?_concat]
    simp only
    unfold putA
    split
    · rw [getK_del, if_pos e]
    · rw [getK_put ih.1, if_pos e]
  · rw [List.filter_cons_of_neg (by simpa using e), List.filter_nil, List.append_nil]
    have h2 : getK (putA (atM r) w) key = getK (atM r) key := by
      unfold putA
      split
      · rw [getK_del, if_neg e]
      · rw [getK_put ih.1, if_neg e]
    rw [h2, ih.2]
    rfl
theorem putK_len (m : List KV) (key : ByteArray) (v : Value) : (putK m key v).length ≤ m.length + 1 := by
  unfold putK
  have h := filters_len (fun p : KV => decide (Lt p.1 key)) (fun p : KV => decide (Lt key p.1)) (fun y h1 h2 => Lt.irrefl _ ((show Lt y.1 key by simpa using h1).trans (by simpa using h2))) m
  simp only [List.length_append, List.length_cons]
  exact Nat.succ_le_succ h
theorem atM_len (ws : List Wr) : (atM ws).length ≤ ws.length := by
  refine snoc_ind (P := fun ws => (atM ws).length ≤ ws.length) (by simp [atM]) (fun r w ih => ?_) ws
  rw [atM_snoc, List.length_append, List.length_singleton]
  unfold putA
  split
  · unfold delK
    have := List.length_filter_le (fun p : KV => decide (p.1 ≠ w.key)) (atM r)
    omega
  · have := putK_len (atM r) w.key (.string w.val)
    omega

theorem get_cons (p : KV) (r : List KV) (k : ByteArray) : getK (p :: r) k = if p.1 = k then some p.2 else getK r k := by
  unfold getK
  by_cases h : p.1 = k
  · rw [if_pos h, List.find?_cons_of_pos (by simpa using h)]; rfl
  · rw [if_neg h, List.find?_cons_of_neg (by simpa using h)]
theorem get_none {l : List KV} {k : ByteArray} (h : ∀ p ∈ l, p.1 ≠ k) : getK l k = none := by
  unfold getK
  rw [Option.map_eq_none_iff, List.find?_eq_none]
  exact fun p hp => by simpa using h p hp
theorem ext_rise : ∀ {a b : List KV}, RiseB (keysOf a) → RiseB (keysOf b) → (∀ k, getK a k = getK b k) → a = b
  | [], [], _, _, _ => rfl
  | [], q :: s, _, _, h => by have := h q.1; rw [get_cons, if_pos rfl] at this; cases this
  | p :: r, [], _, _, h => by have := h p.1; rw [get_cons, if_pos rfl] at this; cases this
  | p :: r, q :: s, ha, hb, h => by
    obtain ⟨a1, a2⟩ := List.pairwise_cons.1 (show (p.1 :: keysOf r).Pairwise Lt from ha)
    obtain ⟨b1, b2⟩ := List.pairwise_cons.1 (show (q.1 :: keysOf s).Pairwise Lt from hb)
    have ra : ∀ x ∈ r, Lt p.1 x.1 := fun x hx => a1 x.1 (List.mem_map.2 ⟨x, hx, rfl⟩)
    have rb : ∀ x ∈ s, Lt q.1 x.1 := fun x hx => b1 x.1 (List.mem_map.2 ⟨x, hx, rfl⟩)
    have hk : p.1 = q.1 := by
      by_cases e : p.1 = q.1
      · exact e
      · have h1 := h p.1
        have h2 := h q.1
        rw [get_cons, if_pos rfl, get_cons, if_neg fun e2 => e e2.symm] at h1
        rw [get_cons, if_neg e, get_cons, if_pos rfl] at h2
        have m1 := getK_mem h1.symm
        have m2 := getK_mem h2
        exact absurd (Lt.trans (rb _ m1) (ra _ m2)) (Lt.irrefl _)
    have hv : p.2 = q.2 := by
      have h1 := h p.1
      rw [get_cons, if_pos rfl, get_cons, if_pos hk.symm] at h1
      exact Option.some.inj h1
    have ht : r = s := ext_rise a2 b2 fun k => by
      by_cases e : p.1 = k
      · rw [get_none fun x hx => (by rw [← e]; exact fun e2 => lt_ne (ra x hx) e2.symm), get_none fun x hx => (by rw [← e, hk]; exact fun e2 => lt_ne (rb x hx) e2.symm)]
      · have h1 := h k
        rwa [get_cons, if_neg e, get_cons, if_neg (by rw [← hk]; exact e)] at h1
    rw [ht]
    congr 1
    exact Prod.ext hk hv

/-- what a store tells, by keys -/
def kvW (w : Wr) : KV := (w.key, .string w.val)
theorem get_fm (seq : Int) (key : ByteArray) : ∀ {l : KL}, RiseM l → getK ((l.filterMap (valM seq)).map kvW) key = if (atR ((lookK l key).getD []) (upN ((lookK l key).getD []) seq)).2 then some (.string (atR ((lookK l key).getD []) (upN ((lookK l key).getD []) seq)).1) else none
  | [], _ => rfl
  | a :: r, h => by
    obtain ⟨h1, h2⟩ := List.pairwise_cons.1 h
    have ih := get_fm seq key h2
    have hlk : lookK (a :: r) key = if a.1 = key then some a.2 else lookK r key := look_one a.1 key a.2 r
    rw [hlk, List.filterMap_cons]
    by_cases e : a.1 = key
    · rw [if_pos e, Option.getD_some]
      unfold valM
      cases hb : (atR a.2 (upN a.2 seq)).2 with
      | true =>
        simp only [if_true]
        rw [List.map_cons, get_cons, if_pos (show (kvW ⟨a.1, (atR a.2 (upN a.2 seq)).1, false⟩).1 = key from e)]
        rfl
      | false =>
        simp only [Bool.false_eq_true, if_false]
        refine get_none fun p hp => ?_
        obtain ⟨w, hw, rfl⟩ := List.mem_map.1 hp
        obtain ⟨q, hq, hqw⟩ := List.mem_filterMap.1 hw
        have hk := valM_key (seq := seq) hqw
        show w.key ≠ key
        rw [hk, ← e]
        exact fun e2 => lt_ne (h1 q hq) e2.symm
    · rw [if_neg e]
      cases hv : valM seq a with
      | none => exact ih
      | some w =>
        simp only
        rw [List.map_cons, get_cons, if_neg (show ¬ (kvW w).1 = key by show ¬ w.key = key; rw [valM_key hv]; exact e)]
        exact ih
theorem look_all {M : StM} (hr : RiseM M.keys) (seq : Int) (ht : M.tells seq = true) : RiseB (keysOf ((M.look ⟨#[]⟩ seq ⟨#[]⟩).map kvW)) ∧ ∀ key, getK ((M.look ⟨#[]⟩ seq ⟨#[]⟩).map kvW) key = if (M.get key seq).2 then some (.string (M.get key seq).1) else none := by
  have e : M.look ⟨#[]⟩ seq ⟨#[]⟩ = M.keys.filterMap (valM seq) := by
    unfold StM.look StM.seen
    rw [rangeM_all, ht]
    rfl
  rw [e]
  refine ⟨?_, fun key => ?_⟩
  · have := fm_rise seq hr
    unfold RiseB keysOf RiseW at *
    rw [List.map_map]
    exact List.pairwise_map.2 this
  · rw [get_fm seq key hr]
    unfold StM.get StM.chain
    rw [ht]
    rfl

theorem ver_last (seq : Int) (ws : List Wr) (key : ByteArray) : ((ws.filter fun w => decide (w.key = key)).map fun w => (⟨seq, w.val, w.gone⟩ : Ver)) = verOf seq ws key := rfl
/-- the writes up to a commit -/
def upTo (base : List Wr) (cs : List CmM) (seq : Int) : List Wr := base ++ (cs.takeWhile fun c => decide (c.seq ≤ seq)).flatMap fun c => c.ws

end Go.Proofs.Ytcebnoapgceodaa.sT
end

section
namespace Go.Proofs.Ytcebnoapgceodaa.sT
open Go.RowKit Go.Proofs.Ytcebnoapgceodaa.tC Go.ChangeMaps Go.MapKept Go.WideMaps

set_option linter.unusedVariables false
set_option linter.unusedSimpArgs false

theorem takeW_stop {cs : List CmM} {seq : Int} {z : Nat} (h : ∀ i (hi : i < cs.length), i < z → (cs[i]).seq ≤ seq) (hz : z ≤ cs.length) (hs : z = cs.length ∨ ∃ h : z < cs.length, seq < (cs[z]).seq) : (cs.takeWhile fun c => decide (c.seq ≤ seq)) = cs.take z := by
  have e : cs = cs.take z ++ cs.drop z := by rw [List.take_append_drop]
  have h1 : ∀ c ∈ cs.take z, decide (c.seq ≤ seq) = true := fun c hc => by
    obtain ⟨i, hi, rfl⟩ := List.getElem_of_mem hc
    rw [List.length_take] at hi
    rw [List.getElem_take]
    exact decide_eq_true (h i (by omega) (by omega))
  have h2 : (cs.drop z).takeWhile (fun c => decide (c.seq ≤ seq)) = [] := by
    rcases hs with hs | ⟨hlt, hs⟩
    · rw [List.drop_of_length_le (by omega)]; rfl
    · rw [List.drop_eq_getElem_cons hlt, List.takeWhile_cons, decide_eq_false (by omega)]
      rfl
  have e2 : (cs.take z ++ cs.drop z).takeWhile (fun c => decide (c.seq ≤ seq)) = cs.take z := by rw [List.takeWhile_append_of_pos h1, h2, List.append_nil]
  rwa [← e] at e2

theorem upTo_is' {base : List Wr} {cs : List CmM} {seq : Int} {z : Nat} (h : ∀ i (hi : i < cs.length), i < z → (cs[i]).seq ≤ seq) (hz : z ≤ cs.length) (hs : z = cs.length ∨ ∃ h : z < cs.length, seq < (cs[z]).seq) : upTo base cs seq = base ++ (cs.take z).flatMap fun c => c.ws := by
  unfold upTo
  rw [takeW_stop h hz hs]

/-- a map of what writes come to -/
def AtI (W : World) (b : Nat) (ws : List Wr) (wr : World) : Prop := (∃ n, n ≤ ws.length ∧ MapAt 9 wr b n (toF (atM ws))) ∧ W.heap.size ≤ b ∧ Below W.heap.size W wr
theorem AtI.low {W wr w' : World} {b : Nat} {ws : List Wr} (h : AtI W b ws wr) (hb : Below wr.heap.size wr w') : AtI W b ws w' := by
  obtain ⟨⟨n, hn, h1⟩, h2, h3⟩ := h
  exact ⟨⟨n, hn, h1.kept (hb.block _ h1.lt)⟩, h2, h3.trans (hb.mono h3.size)⟩
theorem AtI.put {W wr : World} {b : Nat} {ws : List Wr} (h : AtI W b ws wr) (hl : ws.length < 900000) (w : Wr) (hk : w.key.size ≤ maxLen) (hg : w.gone = false) : ∃ w', (Instr.mapUpdate 33 (.map (some b)) (.string w.key) (.string w.val)).run Try.prog wr = .ok () w' ∧ Hid (AtI W b (ws ++ [w]) w') := by
  obtain ⟨⟨n, hn, h1⟩, h2, h3⟩ := h
  obtain ⟨w', hrun, hm2, hg2⟩ := h1.store (e := 9) Try.underlying9 Try.underlying33 (by omega) w.key hk (.string w.val)
  rw [put_map (atM_rise ws).1] at hm2
  refine ⟨w', hrun, Lib.hid ⟨⟨n + 1, by rw [List.length_append, List.length_singleton]; omega, ?_⟩, h2, h3.grown hg2 h3.size fun q hq => by have := Option.some.inj hq; omega⟩⟩
  rw [atM_snoc]
  unfold putA
  rw [hg]
  exact hm2
theorem AtI.del {W wr : World} {b : Nat} {ws : List Wr} (h : AtI W b ws wr) (w : Wr) (hk : w.key.size ≤ maxLen) (hg : w.gone = true) (ty : TypeId) : ∃ w', (Builtin.delete_ #[33, 9] ty #[.map (some b), .string w.key]).run Try.prog wr = .ok (.tuple #[]) w' ∧ Hid (AtI W b (ws ++ [w]) w') := by
  obtain ⟨⟨n, hn, h1⟩, h2, h3⟩ := h
  obtain ⟨w', hrun, hm2, hg2⟩ := h1.delete (e := 9) Try.underlying9 Try.underlying33 w.key hk ty
  rw [del_map] at hm2
  refine ⟨w', hrun, Lib.hid ⟨⟨n, by rw [List.length_append]; omega, ?_⟩, h2, h3.grown hg2 h3.size fun q hq => by have := Option.some.inj hq; omega⟩⟩
  rw [atM_snoc]
  unfold putA
  rw [hg]
  exact hm2

/-- what At answers -/
def AtP (W : World) (ws : List Wr) (e : Ending) (W' : World) : Prop := ∃ b, e = .returned (.map (some b)) ∧ Hid (AtI W b ws W')

set_option maxHeartbeats 2000000 in
set_option maxRecDepth 100000 in
theorem at_map {W : World} {ba : Option Addr} {bc : Nat} {base : List Wr} (hb : WrsIs W ba base) {a : Option Addr} {cap : Nat} {cs : List CmM} (hc : CIs W a cs) (seq : Int) (hbg : ∀ w ∈ base, w.gone = false) (hbk : ∀ w ∈ base, w.key.size ≤ maxLen) (hck : ∀ c ∈ cs, ∀ w ∈ c.ws, w.key.size ≤ maxLen) (hcn : ∀ c ∈ cs, c.ws.length ≤ 900000) (hsz : base.length + (allW cs).length ≤ 800000) (hcl : cs.length ≤ 900000) :
    Calls Try.prog 19 #[.slice ba base.length bc, .slice a cs.length cap, .int .i64 seq] W (AtP W (upTo base cs seq)) := by
  have hmm := @run_makeMap Try.prog
  obtain ⟨b, hbb⟩ : ∃ b, b = W.heap.size := ⟨_, rfl⟩
  have H0 : Hid (AtI W b (base.take 0) (W.alloc (.map #[] 0))) := Lib.hid ⟨⟨0, Nat.zero_le _, by rw [hbb]; exact MapAt.made _ W⟩, by omega, (Below.refl _ _).alloc (Nat.le_refl _) _⟩
  have HB := Lib.hid hbb
  have HW := Lib.hid (And.intro hb (And.intro hc (And.intro hbg (And.intro hbk (And.intro hck hcn)))))
  have hpre : ∀ z, z ≤ cs.length → ((cs.take z).flatMap fun c => c.ws).length ≤ (allW cs).length := fun z hz => by
    have e : allW cs = ((cs.take z).flatMap fun c => c.ws) ++ (cs.drop z).flatMap fun c => c.ws := by
      rw [← List.flatMap_append, List.take_append_drop]
      rfl
    rw [e, List.length_append]
    omega
  have HPRE := Lib.hid hpre
  obtain ⟨Q, hQ⟩ : ∃ Q, Q = AtP W (upTo base cs seq) := ⟨_, rfl⟩
  have HQ := Lib.hid hQ
  rw [← hQ]
  clear hb hc hbg hbk hck hcn hQ hpre
  go_enter Try.func19, Try.ntmps19
  go_wp2_with fail
  rw [← HB.out]
  clear hbb
  go_loopw [17] (fun iv wr => ∃ z : Nat, z ≤ base.length ∧ iv = .int .i64 (z : Int) ∧ Hid (AtI W b (base.take z) wr)) (fun iv _ => base.length - (intOf iv).toNat)
  case atStart => exact ⟨0, Nat.zero_le _, rfl, H0⟩
  case round =>
    obtain ⟨z, hz, rfl, hst⟩ := hrel
    clear H0
    by_cases hzl : z < base.length
    · have hzI : (z : Int) < (base.length : Int) := by omega
      obtain ⟨b2, off2, rfl, hblt2, ⟨m0, m1, m2⟩, _⟩ := HW.out.1.at_ z hzl
      have hlow : Below W.heap.size W wr := hst.out.2.2
      replace m0 := (hlow.cell (p := ⟨b2, off2 + z * 3, none⟩) hblt2).trans m0
      replace m1 := (hlow.cell (p := ⟨b2, off2 + z * 3 + 1, none⟩) hblt2).trans m1
      replace m2 := (hlow.cell (p := ⟨b2, off2 + z * 3 + 2, none⟩) hblt2).trans m2
      obtain ⟨x, hx⟩ : ∃ x, x = base[z] := ⟨_, rfl⟩
      rw [← hx] at m0 m1 m2
      have hxm : x ∈ base := by rw [hx]; exact List.getElem_mem hzl
      have hb3 : Below wr.heap.size wr (wr.alloc (.cells #[.string x.key, .string x.val, .bool x.gone] 48)) := (Below.refl _ _).alloc (Nat.le_refl _) _
      obtain ⟨w5, hrun, hK5⟩ := (hst.out.low hb3).put (by rw [List.length_take]; omega) x (HW.out.2.2.2.1 x hxm) (HW.out.2.2.1 x hxm)
      have HN : Hid (AtI W b (base.take (z + 1)) w5) := Lib.hid (by
        rw [List.take_succ_eq_append_getElem hzl, ← hx]
        exact hK5.out)
      obtain ⟨xk, xv, xg⟩ := x
      simp only at m0 m1 m2 hrun
      clear hx hst hxm hb3 hK5 hlow
      go_wp2_with fail
      go_roundw
      case rel => exact ⟨z + 1, by omega, by go_num, HN⟩
      case measure => simp [intOf]; omega
    · obtain rfl : z = base.length := by omega
      have hzI : ¬ (base.length : Int) < (base.length : Int) := by omega
      have HM : Hid (AtI W b (base ++ (cs.take 0).flatMap fun c => c.ws) wr) := Lib.hid (by have := hst.out; rw [List.take_length] at this; simpa using this)
      clear hst hzl hz
      go_wp2_with fail
      go_loopw [29] (fun iv wr => ∃ z : Nat, z ≤ cs.length ∧ iv = .int .i64 (z : Int) ∧ Hid (AtI W b (base ++ (cs.take z).flatMap fun c => c.ws) wr ∧ ∀ i (hi : i < cs.length), i < z → (cs[i]).seq ≤ seq)) (fun iv _ => cs.length - (intOf iv).toNat)
      case atStart => exact ⟨0, Nat.zero_le _, rfl, Lib.hid ⟨HM.out, fun i _ h => absurd h (by omega)⟩⟩
      case round =>
        obtain ⟨z, hz, rfl, hst⟩ := hrel
        clear HM
        obtain ⟨wo, hwo⟩ : ∃ wo, wo = wr := ⟨_, rfl⟩
        subst hwo
        by_cases hzl : z < cs.length
        · have hzI : (z : Int) < (cs.length : Int) := by omega
          have hlow : Below W.heap.size W wo := hst.out.1.2.2
          rcases HW.out.2.1 with he | ⟨b2, off2, ea, hblt2, hv⟩
          · exact absurd hzl (by rw [he]; simp)
          subst ea
          obtain ⟨m0, m1, wa, wc, m2, hws⟩ := hv z hzl
          replace m0 := (hlow.cell (p := ⟨b2, off2 + z * 3, none⟩) hblt2).trans m0
          replace m1 := (hlow.cell (p := ⟨b2, off2 + z * 3 + 1, none⟩) hblt2).trans m1
          replace m2 := (hlow.cell (p := ⟨b2, off2 + z * 3 + 2, none⟩) hblt2).trans m2
          obtain ⟨x, hx⟩ : ∃ x, x = cs[z] := ⟨_, rfl⟩
          have hxm : x ∈ cs := by rw [hx]; exact List.getElem_mem hzl
          have hxk := HW.out.2.2.2.2.1 x hxm
          have hxn := HW.out.2.2.2.2.2 x hxm
          rw [← hx] at m0 m1 m2 hws
          obtain ⟨sq, at_, ws⟩ := x
          simp only at m0 m1 m2 hws hxk hxn
          have hnext : ((cs.take (z + 1)).flatMap fun c => c.ws) = ((cs.take z).flatMap fun c => c.ws) ++ ws := by
            rw [List.take_succ_eq_append_getElem hzl, List.flatMap_append, ← hx]
            simp
          have hbnd : base.length + (((cs.take z).flatMap fun c => c.ws).length + ws.length) ≤ 800000 := by
            have := HPRE.out (z + 1) (by omega)
            rw [hnext, List.length_append] at this
            omega
          by_cases hsq : seq < sq
          · have HF : Hid (AtP W (upTo base cs seq) (.returned (.map (some b))) (wo.alloc (.cells #[.int .i64 sq, .int .i64 at_, .slice wa ws.length wc] 45))) := Lib.hid ⟨b, rfl, Lib.hid (by
              rw [upTo_is' hst.out.2 (by omega) (.inr ⟨hzl, by rw [← hx]; exact hsq⟩)]
              exact hst.out.1.low ((Below.refl _ _).alloc (Nat.le_refl _) _))⟩
            rw [← HQ.out] at HF
            clear hx hws hst hlow hv hxm hxk hxn hnext hbnd
            go_wp2
            first | exact HF.out | (go_ret; exact HF.out)
          · have HSQ : Hid (∀ i (hi : i < cs.length), i < z + 1 → (cs[i]).seq ≤ seq) := Lib.hid fun i hi h => by
              by_cases hiz : i < z
              · exact hst.out.2 i hi hiz
              · obtain rfl : i = z := by omega
                rw [← hx]
                show sq ≤ seq
                omega
            have HWS := Lib.hid hws
            obtain ⟨n, hn⟩ : ∃ n, n = ws.length := ⟨_, rfl⟩
            rw [← hn] at m2
            have hn8 : n ≤ 800000 := by omega
            have HNN := Lib.hid hn
            have HNX := Lib.hid hnext
            have HXK := Lib.hid hxk
            have HST : Hid (AtI W b ((base ++ (cs.take z).flatMap fun c => c.ws) ++ ws.take 0) (wo.alloc (.cells #[.int .i64 sq, .int .i64 at_, .slice wa n wc] 45))) := Lib.hid (by
              rw [List.take_zero, List.append_nil]
              exact hst.out.1.low ((Below.refl _ _).alloc (Nat.le_refl _) _))
            clear hx hws hst hlow hv hxm hxk hxn hnext hn
            go_wp2_with fail
            go_loopw [40] (fun iv wr => ∃ y : Nat, y ≤ n ∧ iv = .int .i64 (y : Int) ∧ Hid (AtI W b ((base ++ (cs.take z).flatMap fun c => c.ws) ++ ws.take y) wr)) (fun iv _ => n - (intOf iv).toNat)
            case atStart => exact ⟨0, Nat.zero_le _, rfl, HST⟩
            case round =>
              obtain ⟨y, hy, rfl, hst⟩ := hrel
              clear HST m0 m1 m2
              by_cases hyl : y < n
              · have hyI : (y : Int) < (n : Int) := by omega
                have hyw : y < ws.length := by rw [← HNN.out]; exact hyl
                have hlow : Below W.heap.size W wr := hst.out.2.2
                obtain ⟨b4, off4, e4, hblt4, ⟨r0, r1, r2⟩, _⟩ := HWS.out.at_ y hyw
                subst e4
                obtain ⟨x, hx⟩ : ∃ x, x = ws[y] := ⟨_, rfl⟩
                rw [← hx] at r0 r1 r2
                replace r0 := (hlow.cell (p := ⟨b4, off4 + y * 3, none⟩) hblt4).trans r0
                replace r1 := (hlow.cell (p := ⟨b4, off4 + y * 3 + 1, none⟩) hblt4).trans r1
                replace r2 := (hlow.cell (p := ⟨b4, off4 + y * 3 + 2, none⟩) hblt4).trans r2
                have hxk := HXK.out x (by rw [hx]; exact List.getElem_mem hyw)
                have hb3 : Below wr.heap.size wr (wr.alloc (.cells #[.string x.key, .string x.val, .bool x.gone] 48)) := (Below.refl _ _).alloc (Nat.le_refl _) _
                have hS := hst.out.low hb3
                have hT : ws.take (y + 1) = ws.take y ++ [x] := by rw [List.take_succ_eq_append_getElem hyw, ← hx]
                have hlen : ((base ++ (cs.take z).flatMap fun c => c.ws) ++ ws.take y).length < 900000 := by
                  simp only [List.length_append, List.length_take]
                  omega
                by_cases hxg : x.gone = true
                · have hdd := fun ty => hS.del x hxk hxg ty
                  obtain ⟨xk, xv, xg⟩ := x
                  simp only at r0 r1 r2 hxk hxg hdd
                  subst hxg
                  obtain ⟨w5, hrun, HN⟩ := hdd 0
                  rw [List.append_assoc, ← hT] at HN
                  clear hx hst hb3 hS hT hlow hyw hxk hdd hlen
                  go_wp2_with fail
                  go_roundw
                  case rel => exact ⟨y + 1, by omega, by go_num, HN⟩
                  case measure => simp [intOf]; omega
                · have hxg2 : x.gone = false := by simpa using hxg
                  obtain ⟨w5, hrun, HN⟩ := hS.put hlen x hxk hxg2
                  obtain ⟨xk, xv, xg⟩ := x
                  simp only at r0 r1 r2 hxk hxg2 hrun
                  subst hxg2
                  rw [List.append_assoc, ← hT] at HN
                  clear hx hst hb3 hS hT hlow hyw hxk hlen hxg
                  go_wp2_with fail
                  go_roundw
                  case rel => exact ⟨y + 1, by omega, by go_num, HN⟩
                  case measure => simp [intOf]; omega
              · obtain rfl : y = n := by omega
                have hyI : ¬ ((y : Int) < (y : Int)) := by omega
                have HE : Hid (AtI W b (base ++ (cs.take (z + 1)).flatMap fun c => c.ws) wr ∧ ∀ i (hi : i < cs.length), i < z + 1 → (cs[i]).seq ≤ seq) := Lib.hid ⟨by
                  have := hst.out
                  rwa [HNN.out, List.take_length, List.append_assoc, ← HNX.out] at this, HSQ.out⟩
                clear hst HWS HNN HNX HXK HSQ
                go_wp2_with fail
                go_roundw
                case rel => exact ⟨z + 1, by omega, by go_num, HE⟩
                case measure => simp [intOf]; omega
        · obtain rfl : z = cs.length := by omega
          have hzI : ¬ (cs.length : Int) < (cs.length : Int) := by omega
          have HF : Hid (AtP W (upTo base cs seq) (.returned (.map (some b))) wo) := Lib.hid ⟨b, rfl, Lib.hid (by
            rw [upTo_is' hst.out.2 (Nat.le_refl _) (.inl rfl)]
            exact hst.out.1)⟩
          rw [← HQ.out] at HF
          clear hst
          go_wp2
          first | exact HF.out | (go_ret; exact HF.out)

end Go.Proofs.Ytcebnoapgceodaa.sT
end

section
namespace Go.Proofs.Ytcebnoapgceodaa.sT
open Go.RowKit Go.Proofs.Ytcebnoapgceodaa.tC

set_option linter.unusedVariables false
set_option linter.unusedSimpArgs false

theorem upN_app {X Y : List Ver} {seq : Int} (hX : ∀ v ∈ X, v.seq ≤ seq) (hY : ∀ v ∈ Y, seq < v.seq) : upN (X ++ Y) seq = X.length := by
  unfold upN
  rw [List.countP_append, List.countP_eq_length.2 fun v hv => decide_eq_true (hX v hv), List.countP_eq_zero.2 fun v hv => by have := hY v hv; simp only [decide_eq_true_eq]; omega, Nat.add_zero]
theorem atR_app (X Y : List Ver) : atR (X ++ Y) X.length = match X.getLast? with | none => (⟨#[]⟩, false) | some v => if v.gone then (⟨#[]⟩, false) else (v.val, true) := by
  unfold atR
  rw [List.take_left]
  cases X.getLast? <;> rfl
theorem ver_map (seq : Int) (ws : List Wr) (key : ByteArray) : (verOf seq ws key).map (fun v => (v.val, v.gone)) = (ws.filter fun w => decide (w.key = key)).map fun w => (w.val, w.gone) := by
  unfold verOf
  rw [List.map_map]
  rfl
theorem ver_seq {seq : Int} {ws : List Wr} {key : ByteArray} {v : Ver} (h : v ∈ verOf seq ws key) : v.seq = seq := by
  unfold verOf at h
  obtain ⟨w, _, rfl⟩ := List.mem_map.1 h
  rfl
theorem vers_map (cs : List CmM) (key : ByteArray) : (cs.flatMap fun c => verOf c.seq c.ws key).map (fun v => (v.val, v.gone)) = ((cs.flatMap fun c => c.ws).filter fun w => decide (w.key = key)).map fun w => (w.val, w.gone) := by
  induction cs with
  | nil => rfl
  | cons c r ih =>
    rw [List.flatMap_cons, List.flatMap_cons, List.map_append, List.filter_append, List.map_append, ih, ver_map]

theorem get_last {first : Nat} {base : List Wr} {cs : List CmM} (hcs : ∀ z (h : z < cs.length), (cs[z]).seq = (first : Int) + 1 + z) {seq : Int} (h1 : (first : Int) ≤ seq) (h2 : seq ≤ (first : Int) + cs.length) (key : ByteArray) :
    lastW (upTo base cs seq) key = if ((madeM first base cs).get key seq).2 then some (.string ((madeM first base cs).get key seq).1) else none := by
  obtain ⟨a1, a2⟩ := madeM_low first base cs
  have ht : (madeM first base cs).tells seq = true := by
    unfold StM.tells StM.last
    rw [a1, a2, Bool.and_eq_true, decide_eq_true_eq, decide_eq_true_eq]
    omega
  obtain ⟨j, hj⟩ : ∃ j, j = (seq - first).toNat := ⟨_, rfl⟩
  have hjl : j ≤ cs.length := by omega
  have hup : upTo base cs seq = base ++ (cs.take j).flatMap fun c => c.ws := upTo_is' (fun i hi h => by rw [hcs i hi]; omega) hjl (by
    by_cases e : j = cs.length
    · exact .inl e
    · exact .inr ⟨by omega, by rw [hcs j (by omega)]; omega⟩)
  have hch := (rise_made first base cs).2 key
  have e : (cs.flatMap fun c => verOf c.seq c.ws key) = ((cs.take j).flatMap fun c => verOf c.seq c.ws key) ++ (cs.drop j).flatMap fun c => verOf c.seq c.ws key := by
    rw [← List.flatMap_append, List.take_append_drop]
  obtain ⟨X, hX⟩ : ∃ X, X = verOf first base key ++ (cs.take j).flatMap fun c => verOf c.seq c.ws key := ⟨_, rfl⟩
  obtain ⟨Y, hY⟩ : ∃ Y, Y = (cs.drop j).flatMap fun c => verOf c.seq c.ws key := ⟨_, rfl⟩
  rw [e, ← List.append_assoc, ← hX, ← hY] at hch
  have hXs : ∀ v ∈ X, v.seq ≤ seq := fun v hv => by
    rw [hX] at hv
    rcases List.mem_append.1 hv with hv | hv
    · rw [ver_seq hv]; exact h1
    · obtain ⟨c, hc, hv⟩ := List.mem_flatMap.1 hv
      obtain ⟨i, hi, rfl⟩ := List.getElem_of_mem hc
      rw [List.length_take] at hi
      rw [ver_seq hv, List.getElem_take, hcs i (by omega)]
      omega
  have hYs : ∀ v ∈ Y, seq < v.seq := fun v hv => by
    rw [hY] at hv
    obtain ⟨c, hc, hv⟩ := List.mem_flatMap.1 hv
    obtain ⟨i, hi, rfl⟩ := List.getElem_of_mem hc
    rw [List.length_drop] at hi
    rw [ver_seq hv, List.getElem_drop, hcs (j + i) (by omega)]
    omega
  have hget : (madeM first base cs).get key seq = match X.getLast? with | none => (⟨#[]⟩, false) | some v => if v.gone then (⟨#[]⟩, false) else (v.val, true) := by
    unfold StM.get
    rw [ht, if_pos rfl, hch, upN_app hXs hYs, atR_app]
  have hm : X.map (fun v => (v.val, v.gone)) = ((upTo base cs seq).filter fun w => decide (w.key = key)).map fun w => (w.val, w.gone) := by
    rw [hup, hX, List.map_append, ver_map, vers_map, List.filter_append, List.map_append]
  have hl := congrArg List.getLast? hm
  rw [List.getLast?_map, List.getLast?_map] at hl
  rw [hget]
  unfold lastW
  cases hx : X.getLast? with
  | none =>
    rw [hx] at hl
    cases hf : ((upTo base cs seq).filter fun w => decide (w.key = key)).getLast? with
    | none => rfl
    | some w => rw [hf] at hl; cases hl
  | some v =>
    rw [hx] at hl
    cases hf : ((upTo base cs seq).filter fun w => decide (w.key = key)).getLast? with
    | none => rw [hf] at hl; cases hl
    | some w =>
      rw [hf] at hl
      simp only [Option.map_some, Option.some.injEq, Prod.mk.injEq] at hl
      obtain ⟨e1, e2⟩ := hl
      simp only [← e1, ← e2]
      cases v.gone <;> rfl
/-- A STORE BEHIND COMMITS TELLS WHAT THEIR WRITES COME TO -/
theorem tell_at {first : Nat} {base : List Wr} {cs : List CmM} (hcs : ∀ z (h : z < cs.length), (cs[z]).seq = (first : Int) + 1 + z) {seq : Int} (h1 : (first : Int) ≤ seq) (h2 : seq ≤ (first : Int) + cs.length) :
    atM (upTo base cs seq) = ((madeM first base cs).look ⟨#[]⟩ seq ⟨#[]⟩).map kvW := by
  obtain ⟨a1, a2⟩ := madeM_low first base cs
  have ht : (madeM first base cs).tells seq = true := by
    unfold StM.tells StM.last
    rw [a1, a2, Bool.and_eq_true, decide_eq_true_eq, decide_eq_true_eq]
    omega
  obtain ⟨k1, k2⟩ := look_all (rise_made first base cs).1 seq ht
  refine ext_rise (atM_rise _).1 k1 fun key => ?_
  rw [(atM_rise _).2, k2, get_last hcs h1 h2]

/-- what a store tells of a key that it tells -/
theorem look_get {M : StM} (hr : RiseM M.keys) {seq : Int} (ht : M.tells seq = true) {x : Wr} (hx : x ∈ M.look ⟨#[]⟩ seq ⟨#[]⟩) : M.get x.key seq = (x.val, true) ∧ getK ((M.look ⟨#[]⟩ seq ⟨#[]⟩).map kvW) x.key = some (.string x.val) := by
  obtain ⟨k1, k2⟩ := look_all hr seq ht
  have e : M.look ⟨#[]⟩ seq ⟨#[]⟩ = M.seen ⟨#[]⟩ ⟨#[]⟩ seq := by unfold StM.look; rw [ht]; rfl
  have hri : RiseW (M.look ⟨#[]⟩ seq ⟨#[]⟩) := by rw [e]; exact seen_rise hr _ _ _
  have h1 : getK ((M.look ⟨#[]⟩ seq ⟨#[]⟩).map kvW) x.key = some (.string x.val) := by
    unfold getK
    cases hf : ((M.look ⟨#[]⟩ seq ⟨#[]⟩).map kvW).find? fun p => decide (p.1 = x.key) with
    | none =>
      have := List.find?_eq_none.1 hf (kvW x) (List.mem_map.2 ⟨x, hx, rfl⟩)
      simp [kvW] at this
    | some p =>
      obtain ⟨y, hy, rfl⟩ := List.mem_map.1 (List.mem_of_find?_eq_some hf)
      have h1 := List.find?_some hf
      have e : y = x := riseW_same hri y hy x hx (of_decide_eq_true h1)
      rw [e]
      rfl
  refine ⟨?_, h1⟩
  rw [k2] at h1
  cases hg : (M.get x.key seq).2 with
  | false => rw [hg] at h1; cases h1
  | true =>
    rw [hg] at h1
    simp only [if_true, Option.some.injEq, Value.string.injEq] at h1
    exact Prod.ext h1 hg
theorem base_look (M : StM) (seq : Int) : M.baseL seq = M.look ⟨#[]⟩ seq ⟨#[]⟩ := by
  unfold StM.baseL StM.look StM.seen
  rw [rangeM_all]

end Go.Proofs.Ytcebnoapgceodaa.sT
end

section
namespace Go.Proofs.Ytcebnoapgceodaa.sT
open Go.RowKit Go.Proofs.Ytcebnoapgceodaa.tC Go.Proofs.Ytcebnoapgceodaa.rgR Go.ChangeMaps Go.MapKept Go.WideMaps

set_option linter.unusedVariables false
set_option linter.unusedSimpArgs false
attribute [local go_sem] Oper.semAt_some

/-- new boxes, one behind the other -/
def allocs (W : World) : List (Value × TypeId) → World
  | [] => W
  | p :: r => allocs (W.alloc (.cells #[p.1] p.2)) r
theorem allocs_size : ∀ (l : List (Value × TypeId)) (W : World), (allocs W l).heap.size = W.heap.size + l.length
  | [], W => rfl
  | p :: r, W => by rw [allocs, allocs_size r, World.size_alloc, List.length_cons]; omega
theorem allocs_below : ∀ (l : List (Value × TypeId)) (W : World) (n : Nat), n ≤ W.heap.size → Below n W (allocs W l)
  | [], W, n, _ => Below.refl _ _
  | p :: r, W, n, h => ((Below.refl n W).alloc h _).trans (allocs_below r _ n (by rw [World.size_alloc]; omega))
theorem allocs_get : ∀ (l : List (Value × TypeId)) (W : World) (i : Nat) (h : i < l.length), Boxed (allocs W l) (W.heap.size + i) (l[i]).2 (l[i]).1
  | p :: r, W, 0, _ => by
    have h1 := Boxed.new W p.2 p.1
    exact ((allocs_below r (W.alloc (.cells #[p.1] p.2)) _ (Nat.le_refl _)).block _ (by rw [World.size_alloc]; omega)).trans h1
  | p :: r, W, i + 1, h => by
    have h1 := allocs_get r (W.alloc (.cells #[p.1] p.2)) i (by simpa using h)
    rw [World.size_alloc] at h1
    rw [show W.heap.size + (i + 1) = W.heap.size + 1 + i by omega]
    exact h1

theorem zeroStr (w : World) : (zeroValue 9).run Try.prog w = .ok (.string ⟨#[]⟩) w := by kernel_rfl

/-- what the last region reads -/
def ShS (s b c : Nat) (LK : List Wr) (seq : Int) (w' : World) : Prop := (w'.cell? ⟨c, 0, none⟩ = some (.pointer (some ⟨s, 0, none⟩)) ∧ w'.cell? ⟨c + 1, 0, none⟩ = some (.map (some b)) ∧ w'.cell? ⟨c + 2, 0, none⟩ = some (.int .i64 seq) ∧ w'.cell? ⟨c + 4, 0, none⟩ = some (.int .i64 (LK.length : Nat))) ∧ ∀ ty, (Builtin.len_ #[33] ty #[.map (some b)]).run Try.prog w' = .ok (.int .i64 (LK.length : Int)) w'
/-- between two rounds -/
def ShI (LK : List Wr) (W6 : World) (c : Nat) (pre : List Wr) (W' : World) : Prop := pre <+: LK ∧ Boxed W' (c + 4) 3 (.int .i64 (pre.length : Nat)) ∧ (∃ lv, Boxed W' (c + 5) 9 (.string lv) ∧ ∀ ini x, pre = ini ++ [x] → lv = x.key) ∧ Below (c + 4) W6 W'
theorem ShI.own {LK : List Wr} {W6 : World} {c : Nat} (h : c + 6 ≤ W6.heap.size) : OwnFrom W6.heap.size (fun pre : List Wr => ShI LK W6 c pre) := by
  rintro pre X Y row ⟨h1, h2, ⟨lv, h3, h4⟩, h5⟩ hg hr
  exact ⟨h1, h2.kept hg (fun e => by have := (hr _ e.symm).1; omega), ⟨lv, h3.kept hg (fun e => by have := (hr _ e.symm).1; omega), h4⟩, ownFrom_below (β := Unit) (by omega) (by omega) () X Y row h5 hg hr⟩

theorem sh_step {LK : List Wr} {W6 W' w4 : World} {c : Nat} {pre : List Wr} {x : Wr} {B : Nat → Prop} (h : ShI LK W6 c pre W') (hsp : pre ++ [x] <+: LK) (hb : Below W'.heap.size W' w4) (h6 : W6.heap.size = c + 10) (hB : ∀ q, B q → q ≠ c + 4 ∧ q ≠ c + 5) :
    ∃ lv, w4.cell? ⟨c + 5, 0, none⟩ = some (.string lv) ∧ w4.frozen? ⟨c + 5, 0, none⟩ = false ∧ (w4.setCell ⟨c + 5, 0, none⟩ (.string x.key)).cell? ⟨c + 4, 0, none⟩ = some (.int .i64 (pre.length : Nat)) ∧ (w4.setCell ⟨c + 5, 0, none⟩ (.string x.key)).frozen? ⟨c + 4, 0, none⟩ = false ∧
      Hid ((KeepsFrom W6.heap.size W' ((w4.setCell ⟨c + 5, 0, none⟩ (.string x.key)).setCell ⟨c + 4, 0, none⟩ (.int .i64 ((pre.length : Int) + 1))) ∧ SameAll (W6.heap.size + 2) W' ((w4.setCell ⟨c + 5, 0, none⟩ (.string x.key)).setCell ⟨c + 4, 0, none⟩ (.int .i64 ((pre.length : Int) + 1)))) ∧ KpB B W6.heap.size W' ((w4.setCell ⟨c + 5, 0, none⟩ (.string x.key)).setCell ⟨c + 4, 0, none⟩ (.int .i64 ((pre.length : Int) + 1))) ∧ ShI LK W6 c (pre ++ [x]) ((w4.setCell ⟨c + 5, 0, none⟩ (.string x.key)).setCell ⟨c + 4, 0, none⟩ (.int .i64 ((pre.length : Int) + 1)))) := by
  obtain ⟨h1, h2, ⟨lv, h3, h4⟩, h5⟩ := h
  have b4 : Boxed w4 (c + 4) 3 (.int .i64 (pre.length : Nat)) := (hb.block _ h2.lt).trans h2
  have b5 : Boxed w4 (c + 5) 9 (.string lv) := (hb.block _ h3.lt).trans h3
  have b4' : Boxed (w4.setCell ⟨c + 5, 0, none⟩ (.string x.key)) (c + 4) 3 (.int .i64 (pre.length : Nat)) := (Below.heap_setCell w4 ⟨c + 5, 0, none⟩ _ (c + 4) (by show c + 4 ≠ c + 5; omega)).trans b4
  have b5' : Boxed (w4.setCell ⟨c + 5, 0, none⟩ (.string x.key)) (c + 5) 9 (.string x.key) := b5.set _
  have hset : ∀ q, q ≠ c + 4 → q ≠ c + 5 → ((w4.setCell ⟨c + 5, 0, none⟩ (.string x.key)).setCell ⟨c + 4, 0, none⟩ (.int .i64 ((pre.length : Int) + 1))).heap[q]? = w4.heap[q]? := fun q q1 q2 => (Below.heap_setCell _ ⟨c + 4, 0, none⟩ _ q q1).trans (Below.heap_setCell w4 ⟨c + 5, 0, none⟩ _ q q2)
  have hz5 := h5.size
  have hzb := hb.size
  have hsz : ((w4.setCell ⟨c + 5, 0, none⟩ (.string x.key)).setCell ⟨c + 4, 0, none⟩ (.int .i64 ((pre.length : Int) + 1))).heap.size = w4.heap.size := by simp
  refine ⟨lv, b5.cell, b5.frozen, b4'.cell, b4'.frozen, Lib.hid ⟨⟨⟨by rw [hsz]; omega, fun k o hk1 hk ho => ?_⟩, fun q q1 q2 => ?_⟩, ⟨by rw [hsz]; omega, fun q q1 q2 => ?_⟩, hsp, ?_, ⟨x.key, ?_, fun ini y e => ?_⟩, ?_⟩⟩
  · exact (hset k (by omega) (by omega)).trans ((hb.block k (Array.getElem?_eq_some_iff.1 hk).1).trans hk)
  · exact (hset q (by omega) (by omega)).trans (hb.block q q2)
  · exact (hset q (hB q q1).1 (hB q q1).2).trans (hb.block q (by omega))
  · have := b4'.set (.int .i64 ((pre.length : Int) + 1))
    rw [List.length_append, List.length_singleton]
    exact this
  · exact (Below.heap_setCell _ ⟨c + 4, 0, none⟩ _ (c + 5) (by show c + 5 ≠ c + 4; omega)).trans b5'
  · have := List.append_inj_right' e rfl
    rw [List.singleton_inj.1 this]
  · exact ((h5.trans (hb.mono (by omega))).setCell (p := ⟨c + 5, 0, none⟩) (by show c + 4 ≤ c + 5; omega) _).setCell (p := ⟨c + 4, 0, none⟩) (Nat.le_refl _) _

set_option maxHeartbeats 4000000 in
set_option maxRecDepth 100000 in
theorem shows_any {P : Nat → Prop} {W : World} {s : Nat} {M : StM} (h0 : StoreAt P W s M) {N : Nat} (hg : SG M N) (hN : N < 50000) (hkey : ∀ p ∈ M.keys, p.1.size ≤ 400) (seq : Int) (ht : M.tells seq = true) {b n : Nat} (hm : MapAt 9 W b n (toF ((M.look ⟨#[]⟩ seq ⟨#[]⟩).map kvW))) :
    Calls Try.prog 20 #[.pointer (some ⟨s, 0, none⟩), .map (some b), .int .i64 seq] W fun e W' => e = .returned (.bool true) ∧ Below W.heap.size W W' := by
  obtain ⟨c, hc⟩ : ∃ c, c = W.heap.size := ⟨_, rfl⟩
  obtain ⟨P', hPW, h0⟩ : ∃ P' : Nat → Prop, (∀ q, P' q → q < c) ∧ StoreAt P' W s M := by
    obtain ⟨cv, wvs, ls, BT, BC, BM, h⟩ := h0
    exact ⟨fun q => P q ∧ q < c, fun q h => h.2, cv, wvs, ls, BT, BC, BM, h.keep (Nat.le_refl _) fun q hq hlt _ => ⟨rfl, hq, by omega⟩⟩
  have hri := hg.rise
  have hrw : RiseW (M.look ⟨#[]⟩ seq ⟨#[]⟩) := by unfold StM.look; rw [ht]; exact seen_rise hri _ _ _
  have hks := look_key hkey ⟨#[]⟩ seq ⟨#[]⟩
  have hll : (M.look ⟨#[]⟩ seq ⟨#[]⟩).length < 50000 := by
    rw [← base_look]
    unfold StM.baseL
    rw [ht]
    exact Nat.lt_of_le_of_lt (List.length_filterMap_le _ _) (hg.keys hN)
  have HLG := Lib.hid fun x (hx : x ∈ M.look ⟨#[]⟩ seq ⟨#[]⟩) => look_get hri ht hx
  have hSQ := fun w (bf bs bt bq n0 : Nat) (B : Nat → Prop) => range_seqS 2 bf bs bt bq n0 P' B s M ⟨#[]⟩ ⟨#[]⟩ seq hg (by omega) hkey w
  have HST := Lib.hid h0
  have HGD := Lib.hid (hg.good (by omega))
  have HBA : Hid (∀ X, Below c W X → Calls Try.prog 53 #[.pointer (some ⟨s, 0, none⟩), .int .i64 seq] X fun e w' => ∃ a ca, e = .returned (.slice a (M.look ⟨#[]⟩ seq ⟨#[]⟩).length ca) ∧ Hid (Below X.heap.size X w')) := Lib.hid fun X hb => by
    rw [hc] at hb
    refine (base_any (h0.below hb) hg hN seq).mono ?_
    rintro e w' ⟨a, ca, rfl, _, hb2⟩
    rw [base_look]
    exact ⟨a, ca, rfl, Lib.hid hb2⟩
  have HMP : Hid (MapAt 9 W b n (toF ((M.look ⟨#[]⟩ seq ⟨#[]⟩).map kvW)) ∧ b < c) := Lib.hid ⟨hm, by rw [hc]; exact hm.lt⟩
  obtain ⟨LK, hLK⟩ : ∃ LK, LK = M.look ⟨#[]⟩ seq ⟨#[]⟩ := ⟨_, rfl⟩
  rw [← hLK] at hrw hks hll HLG hSQ HBA HMP
  have HSQ := Lib.hid hSQ
  have HKS := Lib.hid (And.intro hrw hks)
  clear hSQ hLK hm h0 hg hkey hri ht hrw hks
  refine (callsIn_wide (n := 3)).1 (callsIn_of_wp_marks Try.func20 rfl trivial ?_)
  simp only [Try.ntmps20, List.size_toArray, List.length_cons, List.length_nil, Nat.reduceAdd, Nat.reduceSub, Array.replicate_succ, Array.replicate_zero, List.push_toArray, List.append_toArray, List.nil_append, List.cons_append]
  refine (wpIn_wide (n := 3)).2 ?_
  go_wp2_with fail
  rw [← hc]
  have HC := Lib.hid hc
  clear hc
  refine (stRange_any (some ⟨s, 0, none⟩) ⟨#[]⟩ ⟨#[]⟩ seq _).mono ?_
  rintro e W6 ⟨rfl, hw6⟩
  simp only [World.size_alloc, ← HC.out, Nat.add_assoc, Nat.reduceAdd]
  have hall : W6 = allocs W [(.pointer (some ⟨s, 0, none⟩), 29), (.map (some b), 33), (.int .i64 seq, 3), (.bool false, 4), (.int .i64 0, 3), (.string ⟨#[]⟩, 9), (.pointer (some ⟨s, 0, none⟩), 29), (.string ⟨#[]⟩, 9), (.string ⟨#[]⟩, 9), (.int .i64 seq, 3)] := hw6
  have HALL : Hid (Below c W W6 ∧ W6.heap.size = c + 10 ∧ Boxed W6 c 29 (.pointer (some ⟨s, 0, none⟩)) ∧ Boxed W6 (c + 1) 33 (.map (some b)) ∧ Boxed W6 (c + 2) 3 (.int .i64 seq) ∧ Boxed W6 (c + 3) 4 (.bool false) ∧ Boxed W6 (c + 4) 3 (.int .i64 ((0 : Nat) : Int)) ∧ Boxed W6 (c + 5) 9 (.string ⟨#[]⟩) ∧ Boxed W6 (c + 6) 29 (.pointer (some ⟨s, 0, none⟩)) ∧ Boxed W6 (c + 7) 9 (.string ⟨#[]⟩) ∧ Boxed W6 (c + 8) 9 (.string ⟨#[]⟩) ∧ Boxed W6 (c + 9) 3 (.int .i64 seq)) := Lib.hid (by
    have h := allocs_get [(.pointer (some ⟨s, 0, none⟩), 29), (.map (some b), 33), (.int .i64 seq, 3), (.bool false, 4), (.int .i64 0, 3), (.string ⟨#[]⟩, 9), (.pointer (some ⟨s, 0, none⟩), 29), (.string ⟨#[]⟩, 9), (.string ⟨#[]⟩, 9), (.int .i64 seq, 3)] W
    have hz := allocs_size [(.pointer (some ⟨s, 0, none⟩), 29), (.map (some b), 33), (.int .i64 seq, 3), (.bool false, 4), (.int .i64 0, 3), (.string ⟨#[]⟩, 9), (.pointer (some ⟨s, 0, none⟩), 29), (.string ⟨#[]⟩, 9), (.string ⟨#[]⟩, 9), (.int .i64 seq, 3)] W
    have hb := allocs_below [(.pointer (some ⟨s, 0, none⟩), 29), (.map (some b), 33), (.int .i64 seq, 3), (.bool false, 4), (.int .i64 0, 3), (.string ⟨#[]⟩, 9), (.pointer (some ⟨s, 0, none⟩), 29), (.string ⟨#[]⟩, 9), (.string ⟨#[]⟩, 9), (.int .i64 seq, 3)] W c (by rw [HC.out]; exact Nat.le_refl _)
    rw [← hall, ← HC.out] at h
    rw [← hall, ← HC.out] at hz
    rw [← hall] at hb
    exact ⟨hb, hz, h 0 (by simp), h 1 (by simp), h 2 (by simp), h 3 (by simp), h 4 (by simp), h 5 (by simp), h 6 (by simp), h 7 (by simp), h 8 (by simp), h 9 (by simp)⟩)
  clear hw6 hall
  go_wp2_with fail
  obtain ⟨hb6, hsz, b0, b1, b2, b3, b4, b5, b6, b7, b8, b9⟩ := HALL.out
  have hst := HSQ.out W6 (c + 7) (c + 6) (c + 8) (c + 9) (c + 10) (fun q => P' q ∨ q = c + 6 ∨ q = c + 8 ∨ q = c + 9) (fun q hq => ⟨.inl hq, by have := hPW q hq; omega⟩) (by omega) (HST.out.below (by rw [← HC.out]; exact hb6)) b7.cell b6.cell b8.cell b9.cell b7.lt ⟨.inr (.inl rfl), by omega⟩ ⟨.inr (.inr (.inl rfl)), by omega⟩ ⟨.inr (.inr (.inr rfl)), by omega⟩
  rw [← hsz] at hst
  have HSEQ := Lib.hid hst
  have HSZ := Lib.hid hsz
  have HCE : Hid (∀ X, Below (c + 4) W6 X → (X.cell? ⟨c, 0, none⟩ = some (.pointer (some ⟨s, 0, none⟩)) ∧ X.cell? ⟨c + 1, 0, none⟩ = some (.map (some b)) ∧ X.cell? ⟨c + 2, 0, none⟩ = some (.int .i64 seq) ∧ Boxed X (c + 3) 4 (.bool false)) ∧ MapAt 9 X b n (toF (LK.map kvW)) ∧ StoreAt P' X s M ∧ Below c W X) := Lib.hid fun X hb => by
    have hbW : Below c W X := hb6.trans (hb.mono (by omega))
    exact ⟨⟨(hb.cell (p := ⟨c, 0, none⟩) (by show c < c + 4; omega)).trans b0.cell, (hb.cell (p := ⟨c + 1, 0, none⟩) (by show c + 1 < c + 4; omega)).trans b1.cell, (hb.cell (p := ⟨c + 2, 0, none⟩) (by show c + 2 < c + 4; omega)).trans b2.cell, (hb.block _ (by omega)).trans b3⟩, HMP.out.1.kept (hbW.block _ HMP.out.2), HST.out.below (by rw [← HC.out]; exact hbW), hbW⟩
  have HI0 : Hid (ShI LK W6 c [] W6) := Lib.hid ⟨List.nil_prefix, b4, ⟨_, b5, fun ini x e => by simp at e⟩, Below.refl _ _⟩
  clear hst hb6 hsz b0 b1 b2 b3 b4 b5 b6 b7 b8 b9 HALL HSQ
  refine (wpIn_wide (n := 3)).1 ?_
  refine' wpIn_rangeA rfl (by omega) (gf := 58) (lb := #[.pointer (some ⟨c + 7, 0, none⟩), .pointer (some ⟨c + 6, 0, none⟩), .pointer (some ⟨c + 8, 0, none⟩), .pointer (some ⟨c + 9, 0, none⟩)]) rfl trivial (enters_of Try.func58 (by kernel_rfl) rfl)
    HSEQ.out (fun h k => h.trans k) (KpB.turn (by omega)) (Below.refl _ _) (fun _ => rfl)
    (fun pre W' => ShI LK W6 c pre W')
    (fun _ _ _ => False)
    (ShI.own (by have := HSZ.out; omega))
    (fun _ _ _ _ _ h _ _ => h) HI0.out _ ?assign ?body ?done ?stop
  case assign =>
    intro l x W K hK
    rw [fold2]
    simp only [List.setIfInBounds_toArray, List.set_cons_succ, List.set_cons_zero]
    repeat gi_step
    exact hK
  case body =>
    rintro l pre x W' hI hlen hsp hbig
    have hxm : x ∈ LK := hsp.subset (by simp)
    obtain ⟨hgx, hmx⟩ := HLG.out x hxm
    obtain ⟨⟨c0, c1, c2, _⟩, hmap, hstore, _⟩ := HCE.out W' hI.2.2.2
    have hxs : x.key.size ≤ 400 := HKS.out.2 x hxm
    have hlk : (Instr.lookup 33 (.map (some b)) (.string x.key) true).run Try.prog W' = .ok (.tuple #[.string x.val, .bool true]) W' := by
      have h1 := hmap.look (e := 9) Try.underlying9 Try.underlying33 (zeroStr W') x.key (by unfold maxLen; omega) true
      rw [get_map, hmx] at h1
      exact h1
    have HG : Hid (Calls Try.prog 21 #[.pointer (some ⟨s, 0, none⟩), .string x.key, .int .i64 seq] W' fun e w' => e = .returned (.tuple #[.string x.val, .bool true]) ∧ Hid (Below W'.heap.size W' w')) := Lib.hid (by
      refine (stGet_any hstore HGD.out x.key seq).mono ?_
      rintro e w' ⟨rfl, hb⟩
      rw [hgx]
      exact ⟨rfl, Lib.hid hb⟩)
    have HI := Lib.hid hI
    obtain ⟨_, bn, ⟨lv, bl, hlv⟩, _⟩ := hI
    have hcn := bn.cell
    have hcl := bl.cell
    have hor : (pre.length = 0) ∨ (¬ pre.length = 0 ∧ Op.bytesLess lv.toList x.key.toList = true ∧ Op.bytesLess x.key.toList lv.toList = false ∧ (x.key.toList == lv.toList) = false) := by
      by_cases h0 : pre.length = 0
      · exact .inl h0
      · refine .inr ⟨h0, ?_⟩
        obtain ⟨ini, y, he⟩ : ∃ ini y, pre = ini ++ [y] := ⟨pre.dropLast, pre.getLast (fun h => h0 (by rw [h]; rfl)), (List.dropLast_concat_getLast _).symm⟩
        rw [hlv ini y he]
        have hlt : Lt y.key x.key := by
          obtain ⟨r, hr⟩ := hsp
          have h9 := HKS.out.1
          rw [← hr, he] at h9
          have h8 := (List.pairwise_append.1 h9).1
          exact (List.pairwise_append.1 h8).2.2 y (by simp) x (by simp)
        refine ⟨?_, ?_, ?_⟩
        · rw [Lib.toList_data, Lib.toList_data, bytesLess_eq]; exact decide_eq_true hlt
        · rw [Lib.toList_data, Lib.toList_data, bytesLess_eq]; exact decide_eq_false (not_lt_of hlt)
        · rw [Lib.toList_data, Lib.toList_data]
          exact Bool.eq_false_iff.2 fun h3 => lt_ne hlt ((key8 _ _).1 (eq_of_beq h3)).symm
    have HSTEP : Hid (∀ w4, Below W'.heap.size W' w4 → ∃ lv, w4.cell? ⟨c + 5, 0, none⟩ = some (.string lv) ∧ w4.frozen? ⟨c + 5, 0, none⟩ = false ∧ (w4.setCell ⟨c + 5, 0, none⟩ (.string x.key)).cell? ⟨c + 4, 0, none⟩ = some (.int .i64 (pre.length : Nat)) ∧ (w4.setCell ⟨c + 5, 0, none⟩ (.string x.key)).frozen? ⟨c + 4, 0, none⟩ = false ∧ _) := Lib.hid fun w4 hb => sh_step (B := fun q => P' q ∨ q = c + 6 ∨ q = c + 8 ∨ q = c + 9) HI.out hsp hb HSZ.out fun q hq => by
      rcases hq with hq | hq | hq | hq
      · have := hPW q hq; omega
      · omega
      · omega
      · omega
    have hpl : pre.length < 50000 := by omega
    obtain ⟨pl, hpl2⟩ : ∃ pl, pl = pre.length := ⟨_, rfl⟩
    have hw1 : IntKind.i64.wrap ((pre.length : Int) + 1) = (pre.length : Int) + 1 := by rw [IntKind.wrap_i64]; omega
    have HC4 : Hid (∀ w4, Below W'.heap.size W' w4 → w4.cell? ⟨c, 0, none⟩ = some (.pointer (some ⟨s, 0, none⟩))) := Lib.hid fun w4 hb => (hb.cell (p := ⟨c, 0, none⟩) (by have := HI.out.2.2.2.size; have := HSZ.out; show c < _; omega)).trans c0
    rw [← hpl2] at hcn hor hw1 HSTEP
    obtain ⟨xk, xv, xg⟩ := x
    simp only at hlk HG hor HSTEP hgx hmx hxs
    clear hxm hgx hmx hmap hstore bn bl hlv hsp hlen hbig hpl hpl2
    rcases hor with h0 | ⟨h0, h1, h2, h3⟩
    · subst h0
      gi_wp2_with fail
      refine ⟨trivial, (CallsIn.inRound l (callsIn_wide.2 HG.out)).mono ?_⟩
      rintro e w4 ⟨rfl, hb4⟩
      obtain ⟨lv2, k1, k2, k3, k4, k5⟩ := HSTEP.out w4 hb4.out
      clear hb4 HG HSTEP
      gi_wp2
      exact ⟨⟨k5.out.1.1, k5.out.2.1, k5.out.2.2⟩, k5.out.1.2⟩
    · have h00 : (0 : Int) < (pl : Int) := by omega
      gi_wp2_with fail
      refine ⟨trivial, (CallsIn.inRound l (callsIn_wide.2 HG.out)).mono ?_⟩
      rintro e w4 ⟨rfl, hb4⟩
      obtain ⟨lv2, k1, k2, k3, k4, k5⟩ := HSTEP.out w4 hb4.out
      clear hb4 HG HSTEP
      gi_wp2
      exact ⟨⟨k5.out.1.1, k5.out.2.1, k5.out.2.2⟩, k5.out.1.2⟩
  case done =>
    rintro D ys W' hD e ⟨_, bn, _, hB⟩ hK
    rw [e] at bn
    obtain ⟨⟨c0, c1, c2, b3⟩, hmap, _, hlowW⟩ := HCE.out W' hB
    have hz1 := hB.size
    have hz2 := HSZ.out
    have hSof : ∀ X, (∀ q, q < W'.heap.size → q ≠ c + 3 → X.heap[q]? = W'.heap[q]?) → ShS s b c LK seq X := fun X hX => by
      have hb1 : b < W'.heap.size := by have := HMP.out.2; omega
      refine ⟨⟨(World.cell?_of_block (a := ⟨c, 0, none⟩) (hX c (by omega) (by omega))).trans c0, (World.cell?_of_block (a := ⟨c + 1, 0, none⟩) (hX (c + 1) (by omega) (by omega))).trans c1, (World.cell?_of_block (a := ⟨c + 2, 0, none⟩) (hX (c + 2) (by omega) (by omega))).trans c2, (World.cell?_of_block (a := ⟨c + 4, 0, none⟩) (hX (c + 4) (by omega) (by omega))).trans bn.cell⟩, fun ty => ?_⟩
      have h1 := World.ownsMap.len (P := Try.prog) (show X.ownsMap Try.prog 9 RV b n (dm (toF (LK.map kvW))) from hmap.kept (hX b hb1 (by have := HMP.out.2; omega))) Try.underlying33 ty
      rwa [toF_length_map, List.length_map] at h1
    have HBX : Hid (Calls Try.prog 53 #[.pointer (some ⟨s, 0, none⟩), .int .i64 seq] W'.drew fun e w2 => ∃ a ca, e = .returned (.slice a LK.length ca) ∧ (w2.cell? ⟨c + 3, 0, none⟩ = some (.bool false) ∧ w2.frozen? ⟨c + 3, 0, none⟩ = false) ∧ ShS s b c LK seq w2 ∧ ShS s b c LK seq (w2.setCell ⟨c + 3, 0, none⟩ (.bool true)) ∧ Hid (Boxed w2 (c + 3) 4 (.bool false) ∧ w2.heap[D]? = some (.deferred (some [])) ∧ Below c W w2)) := Lib.hid (by
      refine (HBA.out W'.drew hlowW.drew).mono ?_
      rintro e w2 ⟨a, ca, rfl, hb⟩
      have hblk : ∀ q, q < W'.heap.size → w2.heap[q]? = W'.heap[q]? := fun q hq => hb.out.block q hq
      have x3 : Boxed w2 (c + 3) 4 (.bool false) := (hblk _ b3.lt).trans b3
      exact ⟨a, ca, rfl, ⟨x3.cell, x3.frozen⟩, hSof w2 fun q hq _ => hblk q hq, hSof _ fun q hq hn => (Below.heap_setCell w2 ⟨c + 3, 0, none⟩ _ q hn).trans (hblk q hq), Lib.hid ⟨x3, (hblk D (Array.getElem?_eq_some_iff.1 hK).1).trans hK, hlowW.drew.trans (hb.out.mono (by rw [HC.out]; exact hlowW.drew.size))⟩⟩)
    have hS1 : ShS s b c LK seq W'.drew := hSof W'.drew fun q _ _ => rfl
    have HDD := Lib.hid hD
    clear hB b3 hmap hlowW hK e bn hD hSof c0 c1 c2 hz1 hz2
    go_wp2_with fail
    unfold ShS at hS1 HBX
    go_region_held3 (fun w' => (w'.cell? ⟨c, 0, none⟩ = some (.pointer (some ⟨s, 0, none⟩)) ∧ w'.cell? ⟨c + 1, 0, none⟩ = some (.map (some b)) ∧ w'.cell? ⟨c + 2, 0, none⟩ = some (.int .i64 seq) ∧ w'.cell? ⟨c + 4, 0, none⟩ = some (.int .i64 (LK.length : Nat))) ∧ ∀ ty, (Builtin.len_ #[33] ty #[.map (some b)]).run Try.prog w' = .ok (.int .i64 (LK.length : Int)) w') (first | with_reducible exact hS1 | with_reducible exact hS4 | with_reducible exact hS5 | go_keep)
      ((go_at_call 53; refine HBX.out.mono ?_; rintro e w2 ⟨a2, ca, rfl, ⟨y1, y2⟩, hS4, hS5, hY⟩))
    all_goals
      clear HBX
      go_wp2_with fail
      obtain ⟨x3, hK2, hb2⟩ := hY.out
      have hDc : D ≠ c + 3 := by have := HDD.out; have := HSZ.out; omega
      have hK3 : (w2.setCell ⟨c + 3, 0, none⟩ (.bool true)).heap[D]? = some (.deferred (some [])) := (Below.heap_setCell w2 ⟨c + 3, 0, none⟩ _ D hDc).trans hK2
      refine ⟨by simp, .inl ⟨_, _, rfl, run_takeDeferred hK3, ?_⟩⟩
      have hres : ((w2.setCell ⟨c + 3, 0, none⟩ (.bool true)).putObj D (.deferred none)).cell? ⟨c + 3, 0, none⟩ = some (.bool true) := (World.cell?_of_block (a := ⟨c + 3, 0, none⟩) (World.putObj_heap_other (fun e => hDc e.symm))).trans (x3.set _).cell
      refine ⟨.bool true, ?_, rfl, ?_⟩
      · simp [results, Try.f20, go_sem, hres]
      · rw [← HC.out]
        exact (hb2.setCell (p := ⟨c + 3, 0, none⟩) (by show c ≤ c + 3; omega) _).trans (belowK_b (w := W) (by rw [HC.out]; exact Nat.le_refl _) _ D _ _ (by have := HDD.out; have := HSZ.out; have := HC.out; omega) hK3 rfl rfl)
  case stop =>
    rintro D co pre W' hD hsp h hK
    exact h.elim

end Go.Proofs.Ytcebnoapgceodaa.sT
end

section
namespace Go.Proofs.Ytcebnoapgceodaa.sT
open Go.RowKit Go.Proofs.Ytcebnoapgceodaa.tC Go.Proofs.Ytcebnoapgceodaa.rgR

set_option linter.unusedVariables false
set_option linter.unusedSimpArgs false

theorem key_write {n : Nat} (seq : Int) : ∀ (ws : List Wr) {M : StM}, RiseM M.keys → (∀ p ∈ M.keys, p.1.size ≤ n) → (∀ w ∈ ws, w.key.size ≤ n) → ∀ p ∈ (M.write seq ws).keys, p.1.size ≤ n
  | [], M, _, h, _ => h
  | w :: r, M, hr, h, hw => by
    rw [write_cons]
    refine key_write seq r (rise_put1 hr w.key _) (fun p hp => ?_) (fun x hx => hw x (List.mem_cons_of_mem _ hx))
    rcases (putM_split hr w.key (M.chain w.key ++ [_])).2.2.1 p hp with rfl | hp
    · exact hw w List.mem_cons_self
    · exact h p hp
theorem key_made (first : Nat) (base : List Wr) (hb : ∀ w ∈ base, w.key.size ≤ 400) (cs : List CmM) : (∀ c ∈ cs, ∀ w ∈ c.ws, w.key.size ≤ 400) → ∀ p ∈ (madeM first base cs).keys, p.1.size ≤ 400 := by
  refine snoc_ind (P := fun cs => (∀ c ∈ cs, ∀ w ∈ c.ws, w.key.size ≤ 400) → ∀ p ∈ (madeM first base cs).keys, p.1.size ≤ 400) ?_ (fun r c ih => ?_) cs
  · intro _
    exact key_write (first : Int) base (M := StM.new first) List.Pairwise.nil (fun p hp => by simp [StM.new] at hp) hb
  · intro h
    rw [madeM_snoc]
    unfold StM.commit
    exact key_write c.seq c.ws (M := (madeM first base r).push ⟨c.seq, c.at_, c.ws⟩) (rise_made first base r).1 (ih fun d hd => h d (List.mem_append_left _ hd)) (h c (List.mem_append_right _ List.mem_cons_self))

theorem listC_key (first : Int) (wss : List (List Wr)) : ∀ c ∈ listC first wss, ∀ w ∈ c.ws, w.key.size ≤ 400 := fun c hc w hw => by
  obtain ⟨i, hi, hci⟩ := List.getElem_of_mem hc
  rw [listC_len] at hi
  have h := listC_get first wss i hi
  rw [List.getElem?_eq_getElem (by rw [listC_len]; exact hi)] at h
  rw [← hci, Option.some.inj h] at hw
  have := (someW_ok wss[i] w hw).2.1
  omega
theorem listC_seq (first : Int) (wss : List (List Wr)) (z : Nat) (h : z < (listC first wss).length) : ((listC first wss)[z]).seq = first + z := by
  have hz : z < wss.length := by rwa [listC_len] at h
  have hg := listC_get first wss z hz
  rw [List.getElem?_eq_getElem h] at hg
  rw [Option.some.inj hg]

/-- A STORE BEHIND COMMITS SHOWS WHAT AT COMES TO -/
theorem shows_made {P : Nat → Prop} {W W0 : World} {s first : Nat} {base : List Wr} {cs : List CmM} (h0 : StoreAt P W s (madeM first base cs)) {N : Nat} (hg : SG (madeM first base cs) N) (hN : N < 50000) (hb : ∀ w ∈ base, w.key.size ≤ 400) (hc : ∀ c ∈ cs, ∀ w ∈ c.ws, w.key.size ≤ 400)
    (hcs : ∀ z (h : z < cs.length), (cs[z]).seq = (first : Int) + 1 + z) {seq : Int} (h1 : (first : Int) ≤ seq) (h2 : seq ≤ (first : Int) + cs.length) {b : Nat} (hm : AtI W0 b (upTo base cs seq) W) :
    Calls Try.prog 20 #[.pointer (some ⟨s, 0, none⟩), .map (some b), .int .i64 seq] W fun e W' => e = .returned (.bool true) ∧ Below W.heap.size W W' := by
  obtain ⟨⟨n, _, hm⟩, _, _⟩ := hm
  rw [tell_at hcs h1 h2] at hm
  obtain ⟨a1, a2⟩ := madeM_low first base cs
  refine shows_any h0 hg hN (key_made first base hb cs hc) seq ?_ hm
  unfold StM.tells StM.last
  rw [a1, a2, Bool.and_eq_true, decide_eq_true_eq, decide_eq_true_eq]
  omega

end Go.Proofs.Ytcebnoapgceodaa.sT
end
