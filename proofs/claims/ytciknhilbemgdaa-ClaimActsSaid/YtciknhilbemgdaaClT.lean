/-
  claim.Take.
-/
import Derived.Test.YtciknhilbemgdaaClA
namespace Go.Proofs.Ytciknhilbemgdaa.cl
open Go.RowKit Go.Maps Go.MapKept Go.WideMaps Go.ChangeMaps

theorem eq_nil (mb : Option Nat) (W : World) : (binOp .eql 28 (.map mb) (.map none)).run Try.prog W = .ok (.bool mb.isNone) W := by
  have h := run_equal_map_nil (P := Try.prog) W 28 _ _ mb Try.underlying28
  simp [binOp, h, Result.andThen]

/-- behind Take: the answer, and the claims -/
def takeG (gs : G) (who : Int) (k : L8) : G := if otherG gs who k then gs else putG k who gs

theorem take_nil (w : World) (who : Int) (k : ByteArray) : Calls Try.prog 10 #[.pointer none, .int .i64 who, .string k] w fun e w' => e = .returned (.bool false) ∧ w = w' := by
  have H := other_nil w who k
  go_enter Try.func10, Try.ntmps10
  go_wp2
  go_ret
  exact ⟨rfl, rfl⟩

set_option maxHeartbeats 2000000 in
theorem take_any {B : Nat → Prop} {w : World} {c n : Nat} {gs : G} (h : CAt B w c n gs) (hB : ∀ q, w.heap.size ≤ q → B q) (hn : n < 1000000) (who : Int) (k : ByteArray) (hk : k.size ≤ maxLen) :
    Calls Try.prog 10 #[.pointer (some ⟨c, 0, none⟩), .int .i64 who, .string k] w fun e w' => e = .returned (.bool (!otherG gs who k.data.toList)) ∧ CAt B w' c (n + 1) (takeG gs who k.data.toList) ∧ Kp w w' B := by
  have HO := Lib.hid (other_any h who k hk)
  obtain ⟨o, ho⟩ : ∃ o, o = otherG gs who k.data.toList := ⟨_, rfl⟩
  have HT : Hid (takeG gs who k.data.toList = if o then gs else putG k.data.toList who gs) := Lib.hid (by rw [ho]; rfl)
  rw [← ho] at HO ⊢
  clear ho
  cases o
  · obtain ⟨h0, h1, mb, h2, h3⟩ := h
    have hc := cell_of_row w c 0 _ _ (0, 0) h2
    have hfz : w.frozen? ⟨c, 0, none⟩ = false := by simp [World.frozen?, h2]
    have hclt : c < w.heap.size := (Array.getElem?_eq_some_iff.1 h2).1
    have hmm := @run_makeMap Try.prog
    have heq := eq_nil mb
    rcases h3 with ⟨rfl, rfl⟩ | ⟨b, rfl, h4, h5, h6⟩
    · have hm0 : MapAt 9 ((w.setCell ⟨c, 0, none⟩ (.map (some w.heap.size))).alloc (.map #[] 0)) w.heap.size 0 [] := by
        have := MapAt.made 9 (w.setCell ⟨c, 0, none⟩ (.map (some w.heap.size)))
        simpa [World.setCell] using this
      obtain ⟨w5, hrun, hm5, hg5⟩ := MapAt.store (e := 3) hm0 Try.underlying9 Try.underlying28 (by omega) k hk (.int .i64 who)
      have hc5 : ((w.setCell ⟨c, 0, none⟩ (.map (some w.heap.size))).alloc (.map #[] 0)).heap[c]? = some (.cells #[.map (some w.heap.size)] 42 (0, 0)) := by
        rw [Below.heap_alloc _ _ _ (by simpa [World.setCell] using hclt)]
        simp [World.setCell, Array.getElem?_modify, h2]
      have HF : Hid (CAt B w5 c (n + 1) (putG k.data.toList who []) ∧ Kp w w5 B) := Lib.hid (by
        have hne : c ≠ w.heap.size := by omega
        refine ⟨⟨rise_put _ _ h0, h1, _, (hg5.block c (by simp [World.setCell]; omega) (by simp [hne])).trans hc5, .inr ⟨_, rfl, hB _ (Nat.le_refl _), Ne.symm hne, ?_⟩⟩, ?_⟩
        · rw [← toV_put]
          exact World.ownsMap.mono hm5 (by omega)
        · refine ⟨hg5.os, hg5.tape, hg5.output, ?_, fun q hq hb => ?_⟩
          · have := hg5.size
            simp [World.setCell] at this
            omega
          · have hqc : q ≠ c := fun e => hb (by rw [e]; exact h1)
            rw [hg5.block q (by simp [World.setCell]; omega) (by simp; omega), Below.heap_alloc _ _ _ (by simpa [World.setCell] using hq)]
            exact Below.heap_setCell w ⟨c, 0, none⟩ _ q hqc)
      have hcell := cell_of_row _ c 0 _ _ (0, 0) hc5
      clear h0 h1 h2 hm0 hm5 hg5 hc5 hB
      go_enter Try.func10, Try.ntmps10
      go_wp2_with fail
      refine HO.out.mono ?_
      rintro e w1 ⟨rfl, rfl⟩
      go_wp2
      go_ret
      exact ⟨rfl, by rw [HT.out]; exact HF.out⟩
    · obtain ⟨w5, hrun, hm5, hg5⟩ := MapAt.store (e := 3) h6 Try.underlying9 Try.underlying28 (by omega) k hk (.int .i64 who)
      have HF : Hid (CAt B w5 c (n + 1) (putG k.data.toList who gs) ∧ Kp w w5 B) := Lib.hid (by
        refine ⟨⟨rise_put _ _ h0, h1, _, (hg5.block c hclt (by simp [Ne.symm h5])).trans h2, .inr ⟨_, rfl, h4, h5, ?_⟩⟩, Kp.grown hg5 fun q hq => ?_⟩
        · rw [← toV_put]
          exact hm5
        · have := Option.some.inj hq
          rw [← this]; exact h4)
      clear h0 h1 h2 h4 h6 hm5 hg5 hB
      go_enter Try.func10, Try.ntmps10
      go_wp2_with fail
      refine HO.out.mono ?_
      rintro e w1 ⟨rfl, rfl⟩
      go_wp2
      go_ret
      exact ⟨rfl, by rw [HT.out]; exact HF.out⟩
  · have HC := Lib.hid h
    clear h
    go_enter Try.func10, Try.ntmps10
    go_wp2_with fail
    refine HO.out.mono ?_
    rintro e w1 ⟨rfl, rfl⟩
    go_wp2
    go_ret
    exact ⟨rfl, by rw [HT.out]; exact HC.out.mono (Nat.le_succ _), Kp.refl _ _⟩

end Go.Proofs.Ytciknhilbemgdaa.cl
