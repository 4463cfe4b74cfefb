/-
  Rows that may lie anywhere in their block: told, kept, appended to, cut off in front. (Of no package.)
-/
import Derived.Test.YtcebnoapgceodaaCopyK
import Derived.Test.YtcebnoapgceodaaTBox
import Derived.ArgAppend
namespace Go.Proofs.Ytcebnoapgceodaa
open Go.RowKit

/-- a row that may lie anywhere in its block -/
def RowO (E K B : Nat) (w : World) (v : Value) (n : Nat) (cs : List Value) : Prop :=
  cs.length = n * K ∧ (∀ u ∈ cs, u.oneCell' = true) ∧
  ((v = .slice none 0 0 ∧ n = 0) ∨ ∃ g o c arr, v = .slice (some ⟨g, o, none⟩) n c ∧ B ≤ g ∧ Box w g E arr ∧ n ≤ c ∧ c ≤ maxLen ∧ o + c * K ≤ arr.size ∧ ∀ j u, cs[j]? = some u → arr[o + j]? = some u)

theorem RowO.nil (E K B : Nat) (w : World) : RowO E K B w (.slice none 0 0) 0 [] := ⟨by simp, fun u hu => by simp at hu, .inl ⟨rfl, rfl⟩⟩
theorem RowO.of {E K B n : Nat} {w : World} {v : Value} {cs : List Value} (h : RowK E K B w v n cs) : RowO E K B w v n cs := by
  refine ⟨h.len, h.2, ?_⟩
  rcases h.1.2 with h0 | ⟨g, c, cur, rfl, _⟩
  · exact .inl h0
  · obtain ⟨arr, hb, hs, hB, hn, hc, hq⟩ := h.parts
    refine .inr ⟨g, 0, c, arr, rfl, hB, hb, hn, hc, by omega, fun j u hj => ?_⟩
    have hl := (List.getElem?_eq_some_iff.1 hj).1
    rw [h.len] at hl
    rw [Nat.zero_add, hq j hl, hj]
theorem RowO.form {E K B n : Nat} {w : World} {v : Value} {cs : List Value} (h : RowO E K B w v n cs) : ∃ a c, v = .slice a n c ∧ n ≤ c ∧ c ≤ maxLen := by
  rcases h.2.2 with ⟨rfl, rfl⟩ | ⟨g, o, c, arr, rfl, _, _, h1, h2, _⟩
  · exact ⟨none, 0, rfl, Nat.le_refl _, by unfold maxLen; omega⟩
  · exact ⟨_, _, rfl, h1, h2⟩
theorem RowO.box {E K B n : Nat} {w : World} {v : Value} {cs : List Value} (h : RowO E K B w v n cs) {g : Nat} (hg : v.ownBlock = some g) : B ≤ g ∧ ∃ arr, Box w g E arr := by
  rcases h.2.2 with ⟨rfl, _⟩ | ⟨g', o, c, arr, rfl, h1, h2, _⟩
  · cases hg
  · injection hg with hg
    subst hg
    exact ⟨h1, arr, h2⟩
theorem RowO.lt {E K B n : Nat} {w : World} {v : Value} {cs : List Value} (h : RowO E K B w v n cs) : ∀ q, v.ownBlock = some q → B ≤ q ∧ q < w.heap.size := fun q hq => by
  obtain ⟨h1, arr, h2⟩ := h.box hq
  exact ⟨h1, h2.lt⟩
theorem RowO.keep {E K B B' n : Nat} {w w' : World} {v : Value} {cs : List Value} (h : RowO E K B w v n cs) (ho : ∀ b, v.ownBlock = some b → w'.heap[b]? = w.heap[b]? ∧ B' ≤ b) : RowO E K B' w' v n cs := by
  refine ⟨h.1, h.2.1, ?_⟩
  rcases h.2.2 with h | ⟨g, o, c, arr, e1, e2, e3, e4⟩
  · exact .inl h
  · have := ho g (by rw [e1]; rfl)
    exact .inr ⟨g, o, c, arr, e1, this.2, this.1.trans e3, e4⟩
theorem RowO.at_ {E K B n c : Nat} {a : Option Addr} {w : World} {cs : List Value} (h : RowO E K B w (.slice a n c) n cs) (hn : 0 < n) : ∃ g o, a = some ⟨g, o, none⟩ ∧ B ≤ g ∧ g < w.heap.size ∧ ∀ q u, cs[q]? = some u → w.cell? ⟨g, o + q, none⟩ = some u := by
  rcases h.2.2 with ⟨e, rfl⟩ | ⟨g, o, c', arr, e, h1, h2, h3, h4, h5, h6⟩
  · omega
  · injection e with e
    subst e
    exact ⟨g, o, rfl, h1, h2.lt, fun q u hq => (h2.cell _).trans (h6 q u hq)⟩

/-- an append -/
theorem RowO.app {P : Program} {w : World} {E K B n : Nat} {v : Value} {cs : List Value} (h : RowO E K B w v n cs) (t ty : TypeId) (i : TypeInfo) (z : Value) (bytes : Nat) (ht : P.underlying t = some (.slice E)) (hi : P.info? E = some i) (hz : i.zero = some z)
    (hsize : i.size = K) (hby : i.bytes = bytes) (hzs : z.cells.size = K) (hK : 0 < K) (a : Addr) (m c : Nat) (news : List Value) (hl : news.length = m * K) (hnews : ∀ j u, news[j]? = some u → w.cell? (a.add j) = some u) (h1 : ∀ u ∈ news, u.oneCell' = true)
    (h63 : n + m ≤ maxLen) (hbytes : (n + m) * bytes ≤ 140737488355328) (hB : B ≤ w.heap.size) :
    ∃ v' w', (Builtin.append_ #[t, t] ty #[v, .slice (some a) m c]).run P w = .ok v' w' ∧ RowO E K B w' v' (n + m) (cs ++ news) ∧ Up w v w' v' := by
  have hone : ∀ u ∈ cs ++ news, u.oneCell' = true := fun u hu => (List.mem_append.1 hu).elim (h.2.1 u) (h1 u)
  have hlen : (cs ++ news).length = (n + m) * K := by rw [List.length_append, h.1, hl, Nat.add_mul]
  have up : ∀ (w' : World) (v' : Value), w'.ownsRow w.heap.size E K v' (n + m) (cs ++ news) → w.grownBy w' none → RowO E K B w' v' (n + m) (cs ++ news) ∧ Up w v w' v' := fun w' v' ho hg => by
    have hk : RowK E K w.heap.size w' v' (n + m) (cs ++ news) := ⟨ho, hone⟩
    refine ⟨(RowO.of hk).keep fun q hq => ⟨rfl, Nat.le_trans hB (hk.lt q hq).1⟩, ⟨hg.os, hg.tape, hg.output, hg.size, fun k hk _ => hg.block k hk (by simp)⟩, .inr fun k hq => (hk.lt k hq).1⟩
  rcases h.2.2 with ⟨rfl, rfl⟩ | ⟨g, o, cap, arr, rfl, hg1, hg2, hg3, hg4, hg5, hg6⟩
  · have hcs : cs = [] := List.eq_nil_of_length_eq_zero (by simpa using h.1)
    subst hcs
    obtain ⟨v', w', hr, ho, hg, _⟩ := run_append_own (P := P) w w.heap.size t ty E i z K bytes ht hi hz hsize hby hzs hK (.slice none 0 0) 0 [] ⟨by simp, .inl ⟨rfl, rfl⟩⟩ a m c news hl hnews h1 h63 hbytes (Nat.le_refl _)
    exact ⟨v', w', hr, up w' v' ho hg⟩
  · by_cases hroom : n + m ≤ cap
    · have hnm : n * K + m * K ≤ cap * K := by rw [← Nat.add_mul]; exact Nat.mul_le_mul_right _ hroom
      have hr := run_append_room_cells (P := P) w t ty E i ht hi g o n cap a m c news (by rw [hsize]; exact hl) hnews h1 hroom (fun j hj => by rw [hg2.cell, hsize, Array.getElem?_eq_getElem (by omega)]; rfl) (fun j _ => hg2.free _)
      rw [setCells_sets, hsize] at hr
      refine ⟨_, _, hr, ⟨hlen, hone, .inr ⟨g, o, cap, _, rfl, hg1, Box.sets news _ hg2, hroom, hg4, by rw [aset_size]; exact hg5, fun j u hj => ?_⟩⟩, ⟨?_, ?_, ?_, ?_, fun k hk hne => ?_⟩, .inl rfl⟩
      · by_cases hjc : j < cs.length
        · rw [List.getElem?_append_left hjc] at hj
          rw [aset_far _ _ _ _ (.inl (by rw [h.1] at hjc; omega))]
          exact hg6 j u hj
        · rw [List.getElem?_append_right (by omega)] at hj
          have := aset_get news arr (o + n * K) (by omega) (j - cs.length) u hj
          rwa [show o + n * K + (j - cs.length) = o + j by rw [h.1] at hjc ⊢; omega] at this
      · exact (Below.sets news (B := 0) (a := w) _ (Below.refl 0 w) (Nat.zero_le g)).os
      · exact (Below.sets news (B := 0) (a := w) _ (Below.refl 0 w) (Nat.zero_le g)).tape
      · exact (Below.sets news (B := 0) (a := w) _ (Below.refl 0 w) (Nat.zero_le g)).output
      · rw [sets_size]; exact Nat.le_refl _
      · exact sets_far _ _ _ _ fun e => hne (by rw [e]; rfl)
    · obtain ⟨v', w', hr, ho, hg⟩ := run_append_arg_grows (P := P) w t ty E i z K bytes ht hi hz hsize hby hzs hK ⟨g, o, none⟩ n cap cs h.1 (fun j u hj => by rw [addr_off]; exact (hg2.cell _).trans (hg6 j u hj)) a m c news hl hnews (by omega) h63 hbytes
      exact ⟨v', w', hr, up w' v' ho hg⟩

/-- the last n elements -/
theorem RowO.cut {E K B n : Nat} {w : World} {g o c : Nat} {cs : List Value} (h : RowO E K B w (.slice (some ⟨g, o, none⟩) n c) n cs) {k : Nat} (hk : k ≤ n) {o' : Nat} (ho : k < c → o' = o + k * K) (ho2 : c = k → o' ≤ o + k * K) : RowO E K B w (.slice (some ⟨g, o', none⟩) (n - k) (c - k)) (n - k) (cs.drop (k * K)) := by
  refine ⟨by rw [List.length_drop, h.1, Nat.sub_mul], fun u hu => h.2.1 u (List.mem_of_mem_drop hu), ?_⟩
  rcases h.2.2 with ⟨e, _⟩ | ⟨g', o1, c', arr, e, h1, h2, h3, h4, h5, h6⟩
  · injection e with e
    cases e
  · injection e with e _ e2
    injection e with e
    injection e with e0 e1
    subst e0; subst e1; subst e2
    refine .inr ⟨g, o', c - k, arr, rfl, h1, h2, by omega, by omega, ?_, fun j u hj => ?_⟩
    · have : (c - k) * K + k * K = c * K := by rw [← Nat.add_mul]; congr 1; omega
      by_cases hck : c = k
      · have := ho2 hck; omega
      · have := ho (by omega); omega
    · rw [List.getElem?_drop] at hj
      by_cases hck : c = k
      · have hl := (List.getElem?_eq_some_iff.1 hj).1
        rw [h.1] at hl
        have : n = k := by omega
        subst this
        omega
      · rw [ho (by omega), Nat.add_assoc]
        exact h6 _ u hj

end Go.Proofs.Ytcebnoapgceodaa
