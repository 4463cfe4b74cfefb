/-
  patch.Encode: the operations' bytes, or what is wrong with them.
-/
import Derived.Test.YtljhcnlifdmacaaPBB
import Derived.Test.YtljhcnlifdmacaaValEnc
import Derived.Test.YtljhcnlifdmacaaLay
namespace Go.Proofs.Ytljhcnlifdmacaa
open Go.RowKit

/-- an operation's bytes -/
def layP : List ByteArray → L8
  | [] => []
  | s :: r => octT s ++ layP r
def layO (o : PO) : L8 := octN o.kind.toNat ++ (octN o.path.length ++ (layP o.path ++ octT ⟨o.val.lay.toArray⟩))
def layOs : List PO → L8
  | [] => []
  | o :: r => layO o ++ layOs r

theorem layP_append (a b : List ByteArray) : layP (a ++ b) = layP a ++ layP b := by
  induction a with
  | nil => rfl
  | cons s r ih => simp only [List.cons_append, layP, ih, List.append_assoc]
theorem layOs_append (a b : List PO) : layOs (a ++ b) = layOs a ++ layOs b := by
  induction a with
  | nil => rfl
  | cons s r ih => simp only [List.cons_append, layOs, ih, List.append_assoc]
theorem layP_next {p : List ByteArray} {j : Nat} (h : j < p.length) : layP (p.take (j + 1)) = layP (p.take j) ++ octT p[j] := by
  rw [List.take_succ_eq_append_getElem h, layP_append]
  simp [layP]
theorem layOs_next {p : List PO} {j : Nat} (h : j < p.length) : layOs (p.take (j + 1)) = layOs (p.take j) ++ layO p[j] := by
  rw [List.take_succ_eq_append_getElem h, layOs_append]
  simp [layOs]

theorem octT_len (s : ByteArray) (h : s.size ≤ 100000) : (octT s).length ≤ s.size + 9 := by
  have := octN_lt s.size (by omega)
  unfold octT
  rw [List.length_append]
  have e : s.data.toList.length = s.size := by rw [Array.length_toList]; rfl
  omega
theorem layP_len : ∀ (p : List ByteArray), (∀ s ∈ p, s.size ≤ 100000) → (layP p).length ≤ p.length * 100009
  | [], _ => Nat.zero_le _
  | s :: r, h => by
    have h1 := octT_len s (h s (by simp))
    have h2 := h s (by simp)
    have h3 := layP_len r (fun x hx => h x (by simp [hx]))
    rw [layP, List.length_append, List.length_cons]
    omega
/-- an operation whose names and bytes are few -/
def SmO (o : PO) : Prop := (o.val.right 32 = true → o.val.fit) ∧ ∀ s ∈ o.path, s.size ≤ 100000

theorem lay_arr (l : L8) : ByteArray.size ⟨l.toArray⟩ = l.length := by simp [ByteArray.size]
theorem layO_len {o : PO} (h : SmO o) (hr : rightO o = true) (hf : o.val.lay.length ≤ 4096) : (layO o).length ≤ 1700000 := by
  unfold rightO at hr
  simp only [Bool.and_eq_true, decide_eq_true_eq] at hr
  have h1 := layP_len o.path h.2
  have h2 := octT_len ⟨o.val.lay.toArray⟩ (by rw [lay_arr]; omega)
  have hk : o.kind ≤ 3 := by
    have := hr.2.2.1
    unfold fitsO at this
    split at this
    · omega
    · split at this
      · omega
      · split at this
        · omega
        · cases this
  have h3 := octN_lt o.kind.toNat (by omega)
  have h4 := octN_lt o.path.length (by omega)
  rw [lay_arr] at h2
  unfold layO
  simp only [List.length_append]
  omega
theorem layOs_len : ∀ (p : List PO), (∀ o ∈ p, SmO o ∧ rightO o = true ∧ o.val.lay.length ≤ 4096) → (layOs p).length ≤ p.length * 1700000
  | [], _ => Nat.zero_le _
  | o :: r, h => by
    have h1 := layO_len (h o (by simp)).1 (h o (by simp)).2.1 (h o (by simp)).2.2
    have h3 := layOs_len r (fun x hx => h x (by simp [hx]))
    rw [layOs, List.length_append, List.length_cons]
    omega

/-- what Encode answers -/
def encO (ops : List PO) : Value :=
  if checkV ops ≠ 0 then .tuple #[.string ⟨#[]⟩, .int .i64 (checkV ops)]
  else if (ops.all fun o => decide (o.val.lay.length ≤ 4096)) = true then .tuple #[.string ⟨(octN ops.length ++ layOs ops).toArray⟩, .int .i64 0]
  else .tuple #[.string ⟨#[]⟩, .int .i64 1]

theorem check_ok {ops : List PO} (h : checkV ops = 0) : ops.length ≤ 50 ∧ ∀ o ∈ ops, rightO o = true := by
  unfold checkV at h
  split at h
  · omega
  · split at h
    · exact ⟨by omega, fun o ho => List.all_eq_true.1 (by assumption) o ho⟩
    · omega

theorem kind_nat {o : PO} (h : rightO o = true) : ∃ k : Nat, o.kind = k ∧ 1 ≤ k ∧ k ≤ 3 := by
  unfold rightO at h
  simp only [Bool.and_eq_true, decide_eq_true_eq] at h
  have := h.2.2.1
  unfold fitsO at this
  split at this
  · exact ⟨1, by omega, by omega, by omega⟩
  · split at this
    · exact ⟨2, by omega, by omega, by omega⟩
    · split at this
      · exact ⟨3, by omega, by omega, by omega⟩
      · cases this

theorem bs_belowE {E B : Nat} {w W : World} {v : Value} {l : List UInt8} (h : Bs E B w v l) (hb : Below w.heap.size w W) : Bs E B W v l := by
  refine World.ownsRow.kept (row := none) h ⟨hb.os, hb.tape, hb.output, hb.size, fun k hk _ => hb.block k hk⟩ ?_
  by_cases hv : v.ownBlock = none
  · exact .inl hv
  · exact .inr hv

/-- the bytes so far, and the operation's own copy -/
def ESt (w : World) (ob : Nat) (cs : Array Value) (b : Value) (l : L8) (W : World) : Prop :=
  Bs 5 w.heap.size W b l ∧ b.ownBlock ≠ some ob ∧ Box W ob 50 cs ∧ Below w.heap.size w W ∧ w.heap.size ≤ ob

theorem ESt.up {w : World} {ob : Nat} {cs : Array Value} {b b' : Value} {l l' : L8} {W W' : World} (h : ESt w ob cs b l W) (hown : Bs 5 w.heap.size W' b' l') (hup : Up W b W' b') : ESt w ob cs b' l' W' := by
  obtain ⟨h1, h2, h3, h4, h5⟩ := h
  refine ⟨hown, ?_, (hup.1.block ob h3.lt (fun e => h2 e.symm)).trans h3, h4.trans (hup.below h1 h4.size), h5⟩
  rcases hup.2 with e | e
  · rw [e]; exact h2
  · intro e2
    have h6 := e _ e2
    have h7 := h3.lt
    omega

theorem ESt.below {w : World} {ob : Nat} {cs : Array Value} {b : Value} {l : L8} {W W' : World} (h : ESt w ob cs b l W) (hb : Below W.heap.size W W') : ESt w ob cs b l W' := by
  obtain ⟨h1, h2, h3, h4, h5⟩ := h
  exact ⟨bs_belowE h1 hb, h2, (hb.block _ h3.lt).trans h3, h4.trans (hb.mono h4.size), h5⟩

end Go.Proofs.Ytljhcnlifdmacaa
