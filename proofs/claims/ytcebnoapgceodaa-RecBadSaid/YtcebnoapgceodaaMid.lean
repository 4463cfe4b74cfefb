/-
  A region that draws its order: operations that only read, then one call that makes memory and that all of them come ahead of, then operations that only read again (each of them behind the call).
-/
import Derived.StillTailTactics
import Derived.WalkKit
namespace Go.Proofs.Ytcebnoapgceodaa
open Go.RowKit

/-- every operation behind number n waits for one of those from n on -/
def behindB (ops : Array Oper) (n : Nat) : Bool :=
  (List.range ops.size).all fun t => decide (t ≤ n) || (List.range t).any fun e => decide (n ≤ e) && Region.waitsFor .any ops t e

/-- the operations 0 .. n-1 can be listed in the text's order, each of them apart from all that need not wait for it; behind them stands T -/
def lexTo (ops : Array Oper) (T : Array Bool → Bool) : Nat → Nat → Array Bool → Bool
  | 0, _, listed => T listed
  | f + 1, k, listed => (Region.ready .any ops listed).contains k && Region.free .any ops listed k && lexTo ops T f (k + 1) (listed.setIfInBounds k true)

def midT (ops : Array Oper) (n g : Nat) (listed : Array Bool) : Bool :=
  decide (Region.ready .any ops listed = [n]) && Region.lexFrom .any ops g (n + 1) (listed.setIfInBounds n true)

def midB (ops : Array Oper) (n : Nat) : Bool :=
  Region.noSelect ops && decide (n < ops.size) && Region.sinkB .any ops n && behindB ops n && lexTo ops (midT ops n (ops.size - n - 1)) n 0 (Array.replicate ops.size false)

section
variable {P : Program} {ops : Array Oper} {w : World}

theorem mid_waits {n : Nat} {listed : Array Bool} (hs : Region.sinkB .any ops n = true) (hc : behindB ops n = true) (hn : n < ops.size) (inv : HeadInv .any ops n listed) {i : Nat} (hi : i < n) (hun : listed.getD i true = false)
    (t : Nat) (ht : n ≤ t) : t ∉ Region.ready .any ops listed := by
  intro hr
  obtain ⟨_, ot, hot, hall⟩ := mem_ready.1 hr
  have htlt : t < ops.size := (Array.getElem?_eq_some_iff.1 hot).1
  rcases Nat.lt_or_ge n t with htn | htn
  · have h1 := List.all_eq_true.1 hc t (List.mem_range.2 htlt)
    simp only [Bool.or_eq_true, decide_eq_true_eq] at h1
    rcases h1 with h1 | h1
    · omega
    · obtain ⟨e, he, he2⟩ := List.any_eq_true.1 h1
      simp only [Bool.and_eq_true, decide_eq_true_eq] at he2
      obtain ⟨oj, hoj, d, hd, hb, hon⟩ := Region.waitsFor_spec he2.2
      rw [hot] at hoj
      injection hoj with hoj
      subst hoj
      have h2 := hall d hd hb
      rw [hon, getD_both (inv.tail e he2.1 (by have := List.mem_range.1 he; omega))] at h2
      cases h2
  · obtain rfl : t = n := by omega
    -- the last one that is not yet listed has something ahead of t, or t itself, waiting for it
    have key : ∀ d i, t - i = d → i < t → listed.getD i true = false → False := by
      intro d
      induction d using Nat.strongRecOn with
      | ind d ih =>
        intro i hd hi hun
        obtain ⟨j, hj, hj2⟩ := List.any_eq_true.1 (List.all_eq_true.1 hs i (List.mem_range.2 hi))
        simp only [Bool.and_eq_true, decide_eq_true_eq] at hj2
        obtain ⟨oj, hoj, e, he, hb, hon⟩ := Region.waitsFor_spec hj2.2
        have hjle := List.mem_range.1 hj
        cases hl : listed.getD j false with
        | true =>
          have h2 := inv.closed j oj hoj hl e he hb
          rw [hon, getD_both hun] at h2
          cases h2
        | false =>
          by_cases hjt : j = t
          · subst hjt
            rw [hot] at hoj
            injection hoj with hoj
            subst hoj
            have h2 := hall e he hb
            rw [hon, getD_both hun] at h2
            cases h2
          · exact ih (t - j) (by omega) j rfl (by omega) (getD_in (by rw [inv.size]; omega) hl)
    exact key _ i rfl hi hun

theorem mid_first {n i : Nat} {oi : Oper} {v : Value} {L : Array Bool → Act → Prop} (hi : ops[i]? = some oi) (hsel : ∀ (j : Nat) (o : Oper) cs b, ops[j]? = some o → o.op ≠ .select cs b)
    (hs : Region.sinkB .any ops n = true) (hc : behindB ops n = true) (hn : n < ops.size) (hin : i < n) (hdone : ∀ listed a, L listed a → ∀ j ∈ Region.ready .any ops listed, n ≤ j) :
    ∀ (f : Nat) (listed : Array Bool) (a : Act), HeadInv .any ops n listed →
      (∀ j oj, ops[j]? = some oj → j ≠ i → listed.getD j true = false → (∀ e ∈ oj.after, Region.binds .any e = true → e.on ≠ i) → oi.apart ops oj = true) →
      i ∈ Region.ready .any ops listed → YieldsAt P ops w oi v a →
      wpAnyL P .any ops w n L f (listed.setIfInBounds i true) (a.put oi.dst v) → wpAnyL P .any ops w n L (f + 1) listed a
  | f, listed, a, inv, hfree, hr, hy, H => by
    have hun := (mem_ready.1 hr).1
    refine ⟨fun h => (by rw [h] at hr; cases hr), fun j hj => ?_⟩
    have hjn : j < n := by
      rcases Nat.lt_or_ge j n with h | h
      · exact h
      · exact absurd hj (mid_waits hs hc hn inv hin hun j h)
    refine ⟨hjn, ?_⟩
    by_cases hji : j = i
    · subst hji; exact hy.stOp hi H
    · match f, H with
      | 0, H => exact absurd (hdone _ _ H j (ready_mono hj hji)) (by omega)
      | f + 1, H =>
        obtain ⟨hjun, oj, hoj, hall⟩ := mem_ready.1 hj
        have hnot : ∀ e ∈ oj.after, Region.binds .any e = true → e.on ≠ i := fun e he hb heq => by
          have h1 := hall e he hb
          rw [heq, getD_both hun] at h1
          cases h1
        have h2 := stOp_put hoj (hfree j oj hoj hji hjun hnot) (fun cs b => hsel i oi cs b hi) (fun cs b => hsel j oj cs b hoj) hy (H.2 j (ready_mono hj hji)).2
        refine stOp_mono (fun a' h3 => mid_first hi hsel hs hc hn hin hdone f (listed.setIfInBounds j true) a' (inv.set hj hjn) (fun k ok hk hki hku hno => hfree k ok hk hki ?_ hno) (ready_mono hr (Ne.symm hji)) h3.1 ?_) h2
        · by_cases hjk : j = k
          · subst hjk; exact hjun
          · rw [getD_set_ne true hjk] at hku; exact hku
        · rw [Array.setIfInBounds_comm _ _ hji]
          exact h3.2

theorem mid_lex {n : Nat} {T : Array Bool → Bool} {Lq : Act → Prop} (hsel : Region.noSelect ops = true) (hs : Region.sinkB .any ops n = true) (hc : behindB ops n = true) (hn : n < ops.size) (hT : ∀ listed, T listed = true → ∀ j ∈ Region.ready .any ops listed, n ≤ j) :
    ∀ (l : List Oper) (k : Nat) (listed : Array Bool) (a : Act), (∀ j, j < l.length → l[j]? = ops[k + j]?) → k + l.length = n → HeadInv .any ops n listed →
    lexTo ops T l.length k listed = true → wpStill P ops w Lq l a → wpAnyL P .any ops w n (fun listed' a' => T listed' = true ∧ Lq a') l.length listed a
  | [], k, listed, a, _, _, _, hB, h => ⟨hB, h⟩
  | o :: l, k, listed, a, hl, hk, inv, hB, h => by
    have h0 : ops[k]? = some o := by simpa using (hl 0 (by simp)).symm
    simp only [List.length_cons] at hk
    rw [List.length_cons, lexTo, Bool.and_eq_true, Bool.and_eq_true] at hB
    obtain ⟨⟨hr, hf⟩, hB'⟩ := hB
    have hr' : k ∈ Region.ready .any ops listed := by simpa using hr
    have hst : stOp P ops w k (wpStill P ops w Lq l) a := by unfold stOp; simp only [h0]; exact h
    obtain ⟨v, hy, hK⟩ := yieldsAt_of_stOp h0 hst
    exact mid_first h0 (Region.noSelect_spec hsel) hs hc hn (by omega) (fun listed' a' hL => hT listed' hL.1) l.length listed a inv (Region.free_spec h0 hf) hr' hy
      (mid_lex hsel hs hc hn hT l (k + 1) _ _ (fun j hj => by have := hl (j + 1) (by simp; omega); simpa [Nat.add_assoc, Nat.add_comm 1 j] using this) (by omega) (inv.set hr' (by omega)) hB' hK)

/-- the call in the middle: it returns, and what is behind it only reads -/
def MidCall (P : Program) (ops : Array Oper) (Q : Exit → Act → World → Prop) (o : Oper) (rest : List Oper) (a : Act) (w : World) : Prop :=
  Region.wanted o (yielded ops a.tmps) = true ∧ ∃ f args, (execOp a.eval o).run P w = .ok (.enter f args) w ∧
    Calls P f args w fun e w' => ∃ v, e = .returned v ∧ wpStill P ops w' (fun a' => Q .normal a' w') rest (a.put o.dst v)

theorem midCall_of {Q : Exit → Act → World → Prop} {o : Oper} {rest : List Oper} {a : Act} (hw : Region.wanted o (yielded ops a.tmps) = true) (f : FuncId) (args : Array Value) (hr : (execOp a.eval o).run P w = .ok (.enter f args) w)
    {v : Value} {R : World → Prop} (hc : Calls P f args w fun e w' => e = .returned v ∧ R w') (h : ∀ w', R w' → wpStill P ops w' (fun a' => Q .normal a' w') rest (a.put o.dst v)) : MidCall P ops Q o rest a w :=
  ⟨hw, f, args, hr, hc.mono fun _ w' hh => ⟨v, hh.1, h w' hh.2⟩⟩

theorem wp_region_mid {id : Nat} {Q : Exit → Act → World → Prop} {a : Act} {w : World} {l : List Oper} (n : Nat) (o : Oper) (hm : P.follows .mixedOrders = true) (hB : midB l.toArray n = true) (ho : l[n]? = some o)
    (h : wpStill P l.toArray { w with drawn := w.drawn + 1 } (fun a' => MidCall P l.toArray Q o (l.drop (n + 1)) a' { w with drawn := w.drawn + 1 }) (l.take n) a) : (Code.region id l.toArray true).wp P Q a w := by
  simp only [midB, Bool.and_eq_true, decide_eq_true_eq] at hB
  obtain ⟨⟨⟨⟨hsel, hn⟩, hs⟩, hc⟩, hlex⟩ := hB
  have hn' : n < l.length := by simpa using hn
  have htl : (l.take n).length = n := by simp; omega
  have hdl : (l.drop (n + 1)).length = l.toArray.size - n - 1 := by simp; omega
  have inv0 : HeadInv .any l.toArray n (Array.replicate l.toArray.size false) :=
    ⟨by simp, fun j oj _ hl => (by rw [getD_replicate_false] at hl; cases hl), fun t _ ht => getD_in (by simpa using ht) (getD_replicate_false _ _)⟩
  have hT : ∀ listed, midT l.toArray n (l.toArray.size - n - 1) listed = true → Region.ready .any l.toArray listed = [n] := fun listed hh => by
    simp only [midT, Bool.and_eq_true, decide_eq_true_eq] at hh; exact hh.1
  have H := mid_lex hsel hs hc hn (fun listed hh j hj => by rw [hT listed hh] at hj; simp at hj; omega) (l.take n) 0 _ a (fun j hj => by
    have hj' : j < n := by rw [htl] at hj; exact hj
    simp [hj']) (by simpa using htl) inv0 (by rw [htl]; exact hlex) h
  refine wp_region_any hm ?_
  have h2 := wpAny_of_head (Q' := Q) (g := l.toArray.size - n - 1 + 1) (fun listed a' (hL : midT l.toArray n (l.toArray.size - n - 1) listed = true ∧ _) => by
    obtain ⟨hL1, hw, f, args, hrun, hcall⟩ := hL
    have hrd := hT listed hL1
    simp only [midT, Bool.and_eq_true, decide_eq_true_eq] at hL1
    refine ⟨fun h1 => (by rw [hrd] at h1; cases h1), fun i hi => ?_⟩
    rw [hrd] at hi
    obtain rfl : i = n := by simpa using hi
    have h0 : l.toArray[i]? = some o := by simpa using ho
    unfold wpOp
    simp only [h0, hw, if_true]
    refine .inl ?_
    unfold Oper.wp
    rw [hrun, Oper.upon_enter]
    refine hcall.mono ?_
    rintro _ w' ⟨v, rfl, hst⟩
    refine wpAny_of_still (Q := fun a' => Q .normal a' w') (fun _ hq => hq) _ _ _ ?_
    have h3 := wpAnyS_lex (md := .any) hsel (l.drop (i + 1)) (i + 1) (listed.setIfInBounds i true) _ (fun j => by simp [List.getElem?_drop]) (by rw [hdl]; exact hL1.2) hst
    rw [hdl] at h3
    exact h3) _ _ _ H
  rw [htl, show n + (l.toArray.size - n - 1 + 1) = l.toArray.size by omega] at h2
  exact h2
end

end Go.Proofs.Ytcebnoapgceodaa
