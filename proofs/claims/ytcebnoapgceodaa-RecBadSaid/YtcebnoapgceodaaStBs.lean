/-
  store: Base: all that belongs to keys behind a commit.
-/
import Derived.Test.YtcebnoapgceodaaStSeX
namespace Go.Proofs.Ytcebnoapgceodaa.sT
open Go.RowKit Go.Proofs.Ytcebnoapgceodaa.tC Go.Proofs.Ytcebnoapgceodaa.rgR

set_option linter.unusedVariables false
set_option linter.unusedSimpArgs false
attribute [local go_sem] Oper.semAt_some

/-- seen, of any commit -/
theorem seen_any {P : Nat → Prop} {W : World} {s : Nat} {M : StM} (h0 : StoreAt P W s M) {N : Nat} (hg : SG M N) (hN : N ≤ 900000) (fr to : ByteArray) (seq : Int) (most : Nat) (hm : 0 < most ∨ M.keys = []) (hm2 : most ≤ 1000000) :
    Calls Try.prog 59 #[.pointer (some ⟨s, 0, none⟩), .string fr, .string to, .int .i64 seq, .int .i64 (most : Int)] W (SeenP W (if M.tells seq then (M.seen fr to seq).take most else [])) := by
  cases ht : M.tells seq with
  | false => exact seen_no h0 fr to seq most ht
  | true => exact seen_yes h0 hg hN fr to seq most hm hm2 ht

theorem rangeM_all (ks : KL) : rangeM ks ⟨#[]⟩ ⟨#[]⟩ = ks := by
  unfold rangeM
  have e1 : (ks.filter fun p => !decide (Lt p.1 ⟨#[]⟩)) = ks := List.filter_eq_self.2 fun p _ => by
    have : ¬ Lt p.1 ⟨#[]⟩ := by unfold Lt; exact List.not_lt_nil _
    simpa using this
  rw [e1]
  have h := List.takeWhile_append_of_pos (p := inM ⟨#[]⟩) (l₁ := ks) (l₂ := []) fun p _ => ?_
  · simpa using h
  unfold inM
  have : ((⟨#[]⟩ : ByteArray).toList == ([] : List UInt8)) = true := by rw [Lib.toList_data]; rfl
  rw [this]
  rfl
/-- what belongs to all keys behind a commit, the store telling of it -/
def StM.baseL (M : StM) (seq : Int) : List Wr := if M.tells seq then M.keys.filterMap (valM seq) else []

theorem base_any {P : Nat → Prop} {W : World} {s : Nat} {M : StM} (h0 : StoreAt P W s M) {N : Nat} (hg : SG M N) (hN : N < 50000) (seq : Int) :
    Calls Try.prog 53 #[.pointer (some ⟨s, 0, none⟩), .int .i64 seq] W (SeenP W (M.baseL seq)) := by
  have hlen : ∃ ls cv, @TreeAt (mkHd (.int .i64 M.low) cv) (fun _ => True) W s ls ∧ total ls = M.keys.length := by
    obtain ⟨cv, wvs, ls, BT, BC, BM, h⟩ := h0
    refine ⟨ls, cv, TreeAt.keep (hd := mkHd (.int .i64 M.low) cv) h.tree fun q _ _ => ⟨rfl, trivial⟩, ?_⟩
    rw [← h.ch.len]
    unfold total
    simp [List.length_flatten]
  obtain ⟨ls, cv, hT, hn⟩ := hlen
  have hk := hg.keys hN
  obtain ⟨n, hnn⟩ : ∃ n, n = M.keys.length := ⟨_, rfl⟩
  have HL : Hid (Calls Try.prog 104 #[.pointer (some ⟨s, 2, none⟩)] W fun e w' => e = .returned (.int .i64 (n : Int)) ∧ W = w') := Lib.hid (by
    have := len_any (hd := mkHd (.int .i64 M.low) cv) hT
    rw [hn, ← hnn] at this
    exact this)
  have HS : Hid (Calls Try.prog 59 #[.pointer (some ⟨s, 0, none⟩), .string ⟨#[]⟩, .string ⟨#[]⟩, .int .i64 seq, .int .i64 (n : Int)] W fun e w' => ∃ a l c, e = .returned (.slice a l c) ∧ Hid (SeenP W (M.baseL seq) (.returned (.slice a l c)) w')) := Lib.hid (by
    refine (seen_any h0 hg (by omega) ⟨#[]⟩ ⟨#[]⟩ seq n (by rw [hnn]; exact (Nat.eq_zero_or_pos _).symm.imp id List.length_eq_zero_iff.1) (by omega)).mono ?_
    rintro e w' ⟨a, c, rfl, h1, h2⟩
    refine ⟨a, _, c, rfl, Lib.hid ?_⟩
    have e1 : (if M.tells seq = true then (M.seen ⟨#[]⟩ ⟨#[]⟩ seq).take n else []) = M.baseL seq := by
      unfold StM.baseL StM.seen
      rw [rangeM_all]
      cases M.tells seq with
      | false => rfl
      | true =>
        simp only [if_true]
        exact List.take_of_length_le (by rw [hnn]; exact List.length_filterMap_le _ _)
    rw [e1] at h1 ⊢
    exact ⟨a, c, rfl, h1, h2⟩)
  obtain ⟨Q, hQ⟩ : ∃ Q, Q = SeenP W (M.baseL seq) := ⟨_, rfl⟩
  rw [← hQ] at HS ⊢
  clear hQ h0 hg hT hn hk hnn
  go_enter Try.func53, Try.ntmps53
  go_wp2_with fail
  refine (chains_any s W).mono ?_
  rintro e w3 ⟨rfl, rfl⟩
  go_wp2_with fail
  refine HL.out.mono ?_
  rintro e w4 ⟨rfl, rfl⟩
  go_wp2_with fail
  refine HS.out.mono ?_
  rintro e w5 ⟨a, l, c, rfl, hQ⟩
  clear HS HL
  go_wp2
  first | exact hQ.out | (go_ret; exact hQ.out)

end Go.Proofs.Ytcebnoapgceodaa.sT
