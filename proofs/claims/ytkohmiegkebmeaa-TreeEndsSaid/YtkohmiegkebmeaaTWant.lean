/-
  mailbaglaw06: the keys from one on, ahead of another one, of the law's own list; Range's own contract.
-/
import Derived.Test.YtkohmiegkebmeaaTPlayW
import Derived.Test.YtkohmiegkebmeaaTRngI
namespace Go.Proofs.Ytkohmiegkebmeaa.tI
open Go.RowKit

set_option linter.unusedVariables false
attribute [local go_sem] Oper.semAt_some

theorem range_any (pt : Option Addr) (key to : ByteArray) (w : World) :
    Calls Try.prog 14 #[.pointer pt, .string key, .string to] w fun e w' => e = .returned (.func (.func 25) #[] #[.pointer (some ⟨w.heap.size, 0, none⟩), .pointer (some ⟨w.heap.size + 1, 0, none⟩), .pointer (some ⟨w.heap.size + 1 + 1, 0, none⟩)]) ∧
      w' = ((w.alloc (.cells #[.pointer pt] 25)).alloc (.cells #[.string key] 9)).alloc (.cells #[.string to] 9) := by
  go_enter Try.func14, Try.ntmps14
  go_wp2
  go_ret
  exact ⟨rfl, rfl⟩

end Go.Proofs.Ytkohmiegkebmeaa.tI
namespace Go.Proofs.Ytkohmiegkebmeaa.tP
open Go.RowKit Go.Proofs.Ytkohmiegkebmeaa.tI

set_option linter.unusedVariables false

theorem tw_filter {α : Type} {R : α → α → Prop} {b : α → Bool} (hb : ∀ x y, R x y → b y = true → b x = true) : ∀ l : List α, l.Pairwise R → l.takeWhile b = l.filter b
  | [], _ => rfl
  | x :: r, h => by
    obtain ⟨h1, h2⟩ := List.pairwise_cons.1 h
    by_cases hx : b x = true
    · rw [List.takeWhile_cons_of_pos hx, List.filter_cons_of_pos hx, tw_filter hb r h2]
    · rw [List.takeWhile_cons_of_neg hx, List.filter_cons_of_neg hx]
      refine (List.filter_eq_nil_iff.2 fun y hy e => hx (hb x y (h1 y hy) e)).symm

def inR (key to : ByteArray) (p : PI) : Bool := !decide (Lt p.1 key) && (to.toList == ([] : List UInt8) || Op.bytesLess p.1.toList to.toList)
/-- the law's own list of what is wanted -/
def wantK (ps : List PI) (key to : ByteArray) (most : Nat) : List PI := (ps.filter (inR key to)).take most

theorem want_len (ps : List PI) (key to : ByteArray) (most : Nat) : (wantK ps key to most).length ≤ most := by unfold wantK; rw [List.length_take]; exact Nat.min_le_left _ _
theorem want_in {ps : List PI} {key to : ByteArray} {most z : Nat} (hz : z < ps.length) (hin : inR key to ps[z] = true) (hl : (wantK (ps.take z) key to most).length < most) : wantK (ps.take (z + 1)) key to most = wantK (ps.take z) key to most ++ [ps[z]] := by
  unfold wantK at *
  rw [List.length_take] at hl
  rw [List.take_succ_eq_append_getElem hz, List.filter_append, List.filter_cons_of_pos hin, List.filter_nil]
  obtain ⟨F, hF⟩ : ∃ F, F = (ps.take z).filter (inR key to) := ⟨_, rfl⟩
  rw [← hF] at hl ⊢
  have e1 : (F ++ [ps[z]]).take most = F ++ [ps[z]] := List.take_of_length_le (by rw [List.length_append, List.length_singleton]; omega)
  have e2 : F.take most = F := List.take_of_length_le (by omega)
  rw [e1, e2]
theorem want_out {ps : List PI} {key to : ByteArray} {most z : Nat} (hz : z < ps.length) (h : inR key to ps[z] = false ∨ most ≤ (wantK (ps.take z) key to most).length) : wantK (ps.take (z + 1)) key to most = wantK (ps.take z) key to most := by
  unfold wantK at *
  rw [List.take_succ_eq_append_getElem hz, List.filter_append]
  rcases h with h | h
  · rw [List.filter_cons_of_neg (by simp [h]), List.filter_nil, List.append_nil]
  · rw [List.length_take] at h
    rw [List.take_append_of_le_length (by omega)]
theorem range_kv {ps : List PI} (hr : RiseB (keysOf (kv ps))) (key to : ByteArray) : rangeK (kv ps) key to = kv (ps.filter (inR key to)) := by
  unfold rangeK fromK
  have h1 : (kv ps).Pairwise (fun a b => Lt a.1 b.1) := List.pairwise_map.1 hr
  rw [tw_filter (R := fun a b : KV => Lt a.1 b.1) (b := toOK to) ?_ _ (h1.filter _)]
  · rw [List.filter_filter]
    unfold kv
    rw [List.filter_map]
    congr 1
    refine List.filter_congr fun p _ => ?_
    simp [inR, toOK, Function.comp, Bool.and_comm]
  · intro x y hxy hy
    unfold toOK at *
    rw [Bool.or_eq_true] at hy ⊢
    rcases hy with h | h
    · exact .inl h
    · exact .inr ((less_key _ _).2 (hxy.trans ((less_key _ _).1 h)))

theorem filter_cut {α : Type} (l : List α) (b : α → Bool) (n : Nat) (h : ∀ j (hj : j < l.length), b l[j] = true ↔ j < n) : l.filter b = l.take n := by
  have e : l.filter b = (l.take n ++ l.drop n).filter b := by rw [List.take_append_drop]
  rw [e, List.filter_append, List.filter_eq_self.2, List.filter_eq_nil_iff.2, List.append_nil]
  · intro x hx
    obtain ⟨j, hj, rfl⟩ := List.getElem_of_mem hx
    rw [List.length_drop] at hj
    rw [List.getElem_drop, h (n + j) (by omega)]
    omega
  · intro x hx
    obtain ⟨j, hj, rfl⟩ := List.getElem_of_mem hx
    rw [List.length_take] at hj
    rw [List.getElem_take, h j (by omega)]
    omega
theorem filter_rest {α : Type} (l : List α) (b : α → Bool) (n : Nat) (h : ∀ j (hj : j < l.length), b l[j] = true ↔ n ≤ j) : l.filter b = l.drop n := by
  have e : l.filter b = (l.take n ++ l.drop n).filter b := by rw [List.take_append_drop]
  rw [e, List.filter_append, List.filter_eq_nil_iff.2, List.nil_append, List.filter_eq_self.2]
  · intro x hx
    obtain ⟨j, hj, rfl⟩ := List.getElem_of_mem hx
    rw [List.length_drop] at hj
    rw [List.getElem_drop, h (n + j) (by omega)]
    omega
  · intro x hx
    obtain ⟨j, hj, rfl⟩ := List.getElem_of_mem hx
    rw [List.length_take] at hj
    rw [List.getElem_take, h j (by omega)]
    omega
theorem from_kv {ps : List PI} (hr : RiseB (keysOf (kv ps))) (key : ByteArray) : fromK (kv ps) key = kv (ps.drop (atK ps key)) := by
  unfold fromK kv
  rw [List.filter_map, filter_rest ps _ (atK ps key)]
  intro j hj
  have := at_lt hr key j hj
  simp only [Function.comp, Bool.not_eq_true', decide_eq_false_iff_not, this]
  omega
theorem in_take {ps : List PI} (hr : RiseB (keysOf (kv ps))) {key : ByteArray} (hk : (key.toList == ([] : List UInt8)) = false) : ps.filter (inR ⟨#[]⟩ key) = ps.take (atK ps key) := by
  refine filter_cut ps _ _ fun j hj => ?_
  have h1 := at_lt hr key j hj
  have h2 : ¬ Lt (ps[j]).1 ⟨#[]⟩ := by unfold Lt; exact List.not_lt_nil _
  unfold inR
  rw [hk, ← h1]
  simp only [h2, decide_false, Bool.not_false, Bool.true_and, Bool.false_or]
  exact less_key _ _
theorem at_next (ps : List PI) (key : ByteArray) {z : Nat} (hz : z < ps.length) : atK (ps.take (z + 1)) key = atK (ps.take z) key + (if Lt (ps[z]).1 key then 1 else 0) := by
  rw [List.take_succ_eq_append_getElem hz]
  unfold atK atB
  rw [kv_append]
  unfold keysOf
  rw [List.map_append, List.countP_append]
  simp [kv]

end Go.Proofs.Ytkohmiegkebmeaa.tP
