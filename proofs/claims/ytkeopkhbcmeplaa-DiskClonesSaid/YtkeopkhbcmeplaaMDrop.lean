/-
  The law's model: drop.
-/
import Derived.Test.YtkeopkhbcmeplaaMApp
namespace Go.Proofs.Ytkeopkhbcmeplaa
open Go.RowKit

/-- what a turn of the model may have turned: its own block, and its files' row -/
def MTurn (w w' : World) (m : Nat) (v : Value) : Prop := w'.os = w.os ∧ w'.tape = w.tape ∧ w'.output = w.output ∧ w.heap.size ≤ w'.heap.size ∧ ∀ q, q < w.heap.size → q ≠ m → v.ownBlock ≠ some q → w'.heap[q]? = w.heap[q]?

/-- where the model's files lie behind a turn: where they lay, or in a new block -/
def VNew (w : World) (v v' : Value) : Prop := ∀ q, v'.ownBlock = some q → v.ownBlock = some q ∨ w.heap.size ≤ q

theorem MTurn.trans {w w1 w2 : World} {m : Nat} {v v1 : Value} (h : MTurn w w1 m v) (k : MTurn w1 w2 m v1) (hv : VNew w v v1) : MTurn w w2 m v :=
  ⟨k.1.trans h.1, k.2.1.trans h.2.1, k.2.2.1.trans h.2.2.1, Nat.le_trans h.2.2.2.1 k.2.2.2.1, fun q hq h1 h2 => (k.2.2.2.2 q (Nat.lt_of_lt_of_le hq h.2.2.2.1) h1 fun e => by
    rcases hv q e with h3 | h3
    · exact h2 h3
    · omega).trans (h.2.2.2.2 q hq h1 h2)⟩
theorem VNew.trans {w w1 : World} {v v1 v2 : Value} (h : VNew w v v1) (k : VNew w1 v1 v2) (hz : w.heap.size ≤ w1.heap.size) : VNew w v v2 := fun q hq => by
  rcases k q hq with h1 | h1
  · exact h q h1
  · exact .inr (by omega)
theorem VNew.refl (w : World) (v : Value) : VNew w v v := fun _ hq => .inl hq

theorem slice_hi (W : World) (g n c i : Nat) (h : i ≤ c) : (Instr.slice 28 (.slice (some ⟨g, 0, none⟩) n c) none (some (.int .i64 (i : Int))) none).run Try.prog W = .ok (.slice (some ⟨g, 0, none⟩) i c) W := by
  have h1 : (i : Int) ≤ (c : Int) := by omega
  go_simp
theorem slice_lo (g n c i : Nat) (h : i ≤ n) (h2 : n ≤ c) : ∃ off, (∀ W, (Instr.slice 28 (.slice (some ⟨g, 0, none⟩) n c) (some (.int .i64 (i : Int))) none none).run Try.prog W = .ok (.slice (some ⟨g, off, none⟩) (n - i) (c - i)) W) ∧ (i < n → off = i * 3) := by
  have h1 : (i : Int) ≤ (n : Int) := by omega
  have h3 : (n : Int) ≤ (c : Int) := by omega
  by_cases hc : c = i
  · refine ⟨0, fun W => ?_, fun h => by omega⟩
    subst hc
    go_simp
  · refine ⟨i * 3, fun W => ?_, fun _ => rfl⟩
    go_simp

theorem MRow.dropped {w : World} {B : Nat} {g n c : Nat} {gs : List FileS} (h : MRow w B (.slice (some ⟨g, 0, none⟩) n c) gs) (i k off : Nat) (hi : i ≤ gs.length) (ho : i < gs.length → off = i * 3) : RRow w (.slice (some ⟨g, off, none⟩) (gs.length - i) k) (gs.drop i) := by
  by_cases e : i < gs.length
  · rw [ho e]; exact h.drop i k hi
  · have e2 : i = gs.length := by omega
    subst e2
    refine .inr ⟨⟨g, off, none⟩, k, by rw [List.length_drop], fun j u hj => ?_⟩
    rw [List.drop_length] at hj
    simp [rcells] at hj

/-- a row of none, new -/
theorem row_empty (w : World) (B : Nat) (hB : B ≤ w.heap.size) : MRow (w.alloc (.cells #[] 45)) B (.slice (some ⟨w.heap.size, 0, none⟩) 0 0) [] :=
  ⟨rfl, .inr ⟨w.heap.size, 0, #[], rfl, hB, heap_alloc_new w _, by simp, by unfold maxLen; omega, by simp, by simp [rcells]⟩⟩

set_option maxHeartbeats 4000000 in
set_option maxRecDepth 100000 in
theorem mdrop_any {w : World} {B m : Nat} {v : Value} {M : MS} (h : MAt w B m v M) (hn : M.files.length ≤ 100000) (i : Nat) (hi : i < M.files.length) :
    Calls Try.prog 31 #[.pointer (some ⟨m, 0, none⟩), .int .i64 i] w fun e w' => e = .returned (.tuple #[]) ∧ (∃ v', MAt w' B m v' { M with files := M.files.take i ++ M.files.drop (i + 1) } ∧ VNew w v v') ∧ MTurn w w' m v := by
  obtain ⟨⟨c0, c1, c2, c3⟩, f0, f1, f2, f3⟩ := Box.four h.1
  obtain ⟨a, c, rfl, hc⟩ := h.2.1.form
  obtain ⟨g, rfl, hg0, hg⟩ := h.2.1.blk (by omega)
  have HM := Lib.hid h
  obtain ⟨gs, hgs⟩ : ∃ gs, gs = M.files := ⟨_, rfl⟩
  rw [← hgs] at c0 hc hn hi
  have HG := Lib.hid hgs
  have hmlt := h.lt.1
  obtain ⟨off, hlo, hoff⟩ := slice_lo g gs.length c (i + 1) (by omega) hc
  have hhi := fun W => slice_hi W g gs.length c i (by omega)
  rw [show ((i + 1 : Nat) : Int) = (i : Int) + 1 by omega] at hlo
  have hB : B ≤ w.heap.size := by have := h.2.2; omega
  have hw1 : IntKind.i64.wrap ((i : Int) + 1) = (i : Int) + 1 := by rw [IntKind.wrap_i64]; omega
  have hrow := h.2.1
  rw [← hgs] at hrow
  have hne : g ≠ m := fun e => h.2.1.ne h.1 (by rw [e]; rfl)
  -- the worlds that may come up
  have HK : Hid (∀ W, Below w.heap.size w W → W.cell? ⟨m, 0, none⟩ = some (.slice (some ⟨g, 0, none⟩) gs.length c) ∧ MRow W B (.slice (some ⟨g, 0, none⟩) gs.length c) gs ∧ W.frozen? ⟨m, 0, none⟩ = false) := Lib.hid fun W hb =>
    ⟨(hb.cell (p := ⟨m, 0, none⟩) hmlt).trans c0, hrow.keep (fun q hq => hb.block q (World.ownsRow.lt hrow q hq).2), (hb.frozen (p := ⟨m, 0, none⟩) hmlt).trans f0⟩
  have HA1 : Hid (∃ a2 k2 W2, (Builtin.append_ #[28, 28] 28 #[.slice (some ⟨w.heap.size, 0, none⟩) 0 0, .slice (some ⟨g, 0, none⟩) i c]).run Try.prog (w.drew.alloc (.cells #[] 45)) = .ok (.slice a2 i k2) W2 ∧ MRow W2 B (.slice a2 i k2) (gs.take i) ∧ Below w.heap.size w W2 ∧ ∀ q, (Value.slice a2 i k2).ownBlock = some q → w.heap.size ≤ q) := Lib.hid (by
    have hb : Below w.heap.size w (w.drew.alloc (.cells #[] 45)) := ((Below.refl _ w).drew).alloc (Nat.le_refl _) _
    have hr := (HK.out _ hb).2.1
    have hx : RRow (w.drew.alloc (.cells #[] 45)) (.slice (some ⟨g, 0, none⟩) i c) (gs.take i) := by
      rcases hr.take i c (by omega) with h1 | h1
      · exact h1
      · cases h1
    obtain ⟨a2, k2, W2, hrun, hm2, hu2⟩ := app_own (w.drew.alloc (.cells #[] 45)) B _ [] (row_empty w.drew B hB) _ _ hx (by have := hb.size; omega) (by simp; omega) 28
    have e : ([] : List FileS).length + (gs.take i).length = i := by rw [List.length_take]; simp; omega
    rw [e] at hrun hm2 hu2
    exact ⟨a2, k2, W2, hrun, hm2, hb.trans ((Below.refl w.heap.size _).grown hu2.1 hb.size fun q hq => by
      have : w.heap.size = q := by simpa [Value.ownBlock] using hq
      omega), fun q hq => by
        rcases hu2.2 with h1 | h1
        · rw [h1] at hq
          have : w.heap.size = q := by simpa [Value.ownBlock] using hq
          omega
        · have h2 := h1 q hq
          have h3 := hb.size
          omega⟩)
  obtain ⟨a2, k2, W2, hrun1, hm2, hb2, hv2⟩ := HA1.out
  have HA2 : Hid (∃ a3 k3 W3, (Builtin.append_ #[28, 28] 28 #[.slice a2 i k2, .slice (some ⟨g, off, none⟩) (gs.length - (i + 1)) (c - (i + 1))]).run Try.prog W2 = .ok (.slice a3 (gs.length - 1) k3) W3 ∧ MRow W3 B (.slice a3 (gs.length - 1) k3) (gs.take i ++ gs.drop (i + 1)) ∧ Below w.heap.size w W3 ∧ ∀ q, (Value.slice a3 (gs.length - 1) k3).ownBlock = some q → w.heap.size ≤ q) := Lib.hid (by
    have hr := (HK.out _ hb2).2.1
    have hx := hr.dropped (i + 1) (c - (i + 1)) off (by omega) hoff
    obtain ⟨a3, k3, W3, hrun, hm3, hu3⟩ := app_own W2 B _ _ hm2 _ _ hx (by have := hb2.size; omega) (by rw [List.length_take, List.length_drop]; omega) 28
    have e : (gs.take i).length + (gs.drop (i + 1)).length = gs.length - 1 := by rw [List.length_take, List.length_drop]; omega
    rw [e] at hrun hm3 hu3
    exact ⟨a3, k3, W3, hrun, hm3, hb2.trans ((Below.refl w.heap.size _).grown hu3.1 hb2.size hv2), fun q hq => by
      rcases hu3.2 with h1 | h1
      · rw [h1] at hq; exact hv2 q hq
      · have h2 := h1 q hq
        have h3 := hb2.size
        omega⟩)
  obtain ⟨a3, k3, W3, hrun2, hm3, hb3, hv3⟩ := HA2.out
  obtain ⟨p0, p1, p2⟩ := HK.out _ ((Below.refl w.heap.size w).drew)
  obtain ⟨q0, q1, q2⟩ := HK.out _ hb2
  obtain ⟨r0, r1, r2⟩ := HK.out _ hb3
  obtain ⟨t0, t1, t2⟩ := HK.out _ (((Below.refl w.heap.size w).drew).alloc (Nat.le_refl _) (.cells #[] 45))
  have HFIN : Hid ((∃ v', MAt (W3.setCell ⟨m, 0, none⟩ (.slice a3 (gs.length - 1) k3)) B m v' { M with files := gs.take i ++ gs.drop (i + 1) } ∧ VNew w (.slice (some ⟨g, 0, none⟩) gs.length c) v') ∧ MTurn w (W3.setCell ⟨m, 0, none⟩ (.slice a3 (gs.length - 1) k3)) m (.slice (some ⟨g, 0, none⟩) gs.length c)) := Lib.hid (by
    have hk : ∀ q, q ≠ m → (W3.setCell ⟨m, 0, none⟩ (.slice a3 (gs.length - 1) k3)).heap[q]? = W3.heap[q]? := fun q hq => Below.heap_setCell W3 ⟨m, 0, none⟩ _ q hq
    have hbox : Box W3 m 30 #[.slice (some ⟨g, 0, none⟩) M.files.length c, .int .i64 M.size, .bool M.down, .int .i64 M.falls] := (hb3.block m hmlt).trans HM.out.1
    refine ⟨⟨.slice a3 (gs.length - 1) k3, ⟨hbox.setSame 0 (.slice a3 (gs.length - 1) k3), hm3.keep fun q hq => hk q fun e => hm3.ne hbox (by rw [hq, e]), HM.out.2.2⟩, fun q hq => .inr (hv3 q hq)⟩, hb3.os, hb3.tape, hb3.output, by have := hb3.size; simp [World.setCell]; omega, fun q hq h1 _ => (hk q h1).trans (hb3.block q hq)⟩)
  have hrun1' : (Builtin.append_ #[28, 28] 28 #[.slice (some ⟨w.heap.size, 0, none⟩) 0 0, .slice (some ⟨g, 0, none⟩) i c]).run Try.prog (w.alloc (.cells #[] 45)).drew = .ok (.slice a2 i k2) W2 := hrun1
  clear HA1 HA2 hm2 hb2 hv2 hm3 hb3 hv3 p1 q1 r1 t1 h c1 c2 c3 f1 f2 f3 hrow hg0 hg hne hoff hB HK
  rw [← hgs]
  clear hgs
  go_enter Try.func31, Try.ntmps31
  go_wp2_with fail
  go_region_law (first
    | (refine step_run rfl (.tmp 5) (.tmp 11) 28 rfl (.slice (some ⟨w.heap.size, 0, none⟩) 0 0) (.slice (some ⟨g, 0, none⟩) i c) (by simp [Act.eval, Act.put]) (by simp [Act.eval, Act.put]) hrun1' ?_)
    | (refine step_run rfl (.tmp 12) (.tmp 19) 28 rfl (.slice a2 i k2) (.slice (some ⟨g, off, none⟩) (gs.length - (i + 1)) (c - (i + 1))) (by simp [Act.eval, Act.put]) (by simp [Act.eval, Act.put]) hrun2 ?_))
  all_goals
    go_wp2
    go_end0
    exact ⟨rfl, HFIN.out⟩

end Go.Proofs.Ytkeopkhbcmeplaa
