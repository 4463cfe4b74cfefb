/-
  The law's model: put, walked.
-/
import Derived.Test.YtkeopkhbcmeplaaMPut
import Derived.BigRegion
namespace Go.Proofs.Ytkeopkhbcmeplaa
open Go.RowKit

theorem MRow.mono {w : World} {B B' : Nat} {v : Value} {gs : List FileS} (h : MRow w B v gs) (hb : B' ≤ B) : MRow w B' v gs := ⟨h.1, h.2.imp id fun ⟨g, cap, cur, e1, e2, r⟩ => ⟨g, cap, cur, e1, Nat.le_trans hb e2, r⟩⟩

def PutPost (w w' : World) (B m : Nat) (v : Value) (M : MS) (gs : List FileS) : Prop := (∃ v', MAt w' B m v' { M with files := gs } ∧ VNew w v v') ∧ MTurn w w' m v

set_option maxHeartbeats 4000000 in
set_option maxRecDepth 100000 in
theorem mput_over {w : World} {B m : Nat} {v : Value} {M : MS} (h : MAt w B m v M) (hn : M.files.length ≤ 100000) (f : FileS) (nm dt : ByteArray) (hnm : nm = ⟨f.name.toArray⟩) (hdt : dt = ⟨f.data.toArray⟩) (hat : isAt f.name M.files = true) :
    Calls Try.prog 30 #[.pointer (some ⟨m, 0, none⟩), .agg #[.string nm, .string dt, .int .i64 f.safe]] w fun e w' => e = .returned (.tuple #[]) ∧ PutPost w w' B m v M (mput f M.files) := by
  obtain ⟨a, c, rfl, hc⟩ := h.2.1.form
  obtain ⟨hset, hilt⟩ := set_at f hat
  obtain ⟨g, rfl, hg0, hg⟩ := h.2.1.blk (by omega)
  have hA := h.below ((Below.refl w.heap.size w).alloc (Nat.le_refl _) (.cells #[.string nm, .string dt, .int .i64 f.safe] 45))
  have hfind := find_any hA (by omega) nm
  rw [show bl nm = f.name by rw [hnm, bl_of], hat] at hfind
  obtain ⟨i, hi⟩ : ∃ i, i = (hd f.name M.files).length := ⟨_, rfl⟩
  rw [← hi] at hfind hset hilt
  clear hi
  have HFD := Lib.hid hfind
  have HM := Lib.hid h
  have HSET := Lib.hid hset
  have HAW : Hid (∀ W, Below (w.alloc (.cells #[.string nm, .string dt, .int .i64 f.safe] 45)).heap.size (w.alloc (.cells #[.string nm, .string dt, .int .i64 f.safe] 45)) W → Below w.heap.size w W ∧ Box W w.heap.size 45 #[.string nm, .string dt, .int .i64 f.safe]) := Lib.hid fun W hb =>
    ⟨((Below.refl w.heap.size w).alloc (Nat.le_refl _) _).trans (hb.mono (by simp)), (hb.block w.heap.size (by simp)).trans (heap_alloc_new w _)⟩
  have HN := Lib.hid (And.intro hnm hdt)
  clear hA hfind hset hnm hdt h
  go_enter Try.func30, Try.ntmps30
  go_wp2_with fail
  refine HFD.out.mono ?_
  rintro e w2 ⟨rfl, hb2⟩
  obtain ⟨hbw, hbox⟩ := HAW.out w2 hb2
  have hM2 := HM.out.below hbw
  obtain ⟨⟨c0, c1, c2, c3⟩, f0, f1, f2, f3⟩ := Box.four hM2.1
  have e0 := hbox.cell 0
  have e1 := hbox.cell 1
  have e2 := hbox.cell 2
  obtain ⟨d0, d1, d2⟩ := hM2.2.1.cell i hilt
  have k0 := World.ownsRow.frozenAt hM2.2.1 (i * 3)
  have k1 := World.ownsRow.frozenAt hM2.2.1 (i * 3 + 1)
  have k2 := World.ownsRow.frozenAt hM2.2.1 (i * 3 + 2)
  have hil : (i : Int) < (M.files.length : Int) := by omega
  have HFIN : Hid (PutPost w (((w2.drew.setCell ⟨g, i * 3, none⟩ (.string nm)).setCell ⟨g, i * 3 + 1, none⟩ (.string dt)).setCell ⟨g, i * 3 + 2, none⟩ (.int .i64 f.safe)) B m (.slice (some ⟨g, 0, none⟩) M.files.length c) M (mput f M.files)) := Lib.hid (by
    have hne : g ≠ m := fun e => hM2.2.1.ne hM2.1 (by rw [e]; rfl)
    have h3 := hM2.2.1.set3 rfl i f hilt
    rw [← HN.out.1, ← HN.out.2] at h3
    have hk : ∀ q, q ≠ g → (((w2.drew.setCell ⟨g, i * 3, none⟩ (.string nm)).setCell ⟨g, i * 3 + 1, none⟩ (.string dt)).setCell ⟨g, i * 3 + 2, none⟩ (.int .i64 f.safe)).heap[q]? = w2.heap[q]? := fun q hq =>
      (Below.heap_setCell _ ⟨g, i * 3 + 2, none⟩ _ q hq).trans ((Below.heap_setCell _ ⟨g, i * 3 + 1, none⟩ _ q hq).trans (Below.heap_setCell w2.drew ⟨g, i * 3, none⟩ _ q hq))
    have hz : (((w2.drew.setCell ⟨g, i * 3, none⟩ (.string nm)).setCell ⟨g, i * 3 + 1, none⟩ (.string dt)).setCell ⟨g, i * 3 + 2, none⟩ (.int .i64 f.safe)).heap.size = w2.heap.size := by simp [World.setCell]
    refine ⟨⟨.slice (some ⟨g, 0, none⟩) M.files.length c, ⟨(hk m (Ne.symm hne)).trans hM2.1, ?_, hM2.2.2⟩, VNew.refl _ _⟩, hbw.os, hbw.tape, hbw.output, by rw [hz]; exact hbw.size, fun q hq h1 h2 => (hk q fun e => h2 (by rw [e]; rfl)).trans (hbw.block q hq)⟩
    have h4 : MRow (((w2.drew.setCell ⟨g, i * 3, none⟩ (.string nm)).setCell ⟨g, i * 3 + 1, none⟩ (.string dt)).setCell ⟨g, i * 3 + 2, none⟩ (.int .i64 f.safe)) B (.slice (some ⟨g, 0, none⟩) M.files.length c) (M.files.set i f) := h3
    rw [HSET.out] at h4
    exact h4)
  clear HFD HM HSET HAW hb2 hbw hbox hM2 c1 c2 c3 f0 f1 f2 f3 hg0 hg hat HN
  go_wp2
  go_region
  all_goals
    go_wp2
    exact bodyPost_ret (v := .tuple #[]) (by simp [results, Try.results30, go_sem]) rfl ⟨rfl, HFIN.out⟩

set_option maxHeartbeats 4000000 in
set_option maxRecDepth 100000 in
theorem mput_new {w : World} {B m : Nat} {v : Value} {M : MS} (h : MAt w B m v M) (hn : M.files.length ≤ 100000) (f : FileS) (nm dt : ByteArray) (hnm : nm = ⟨f.name.toArray⟩) (hdt : dt = ⟨f.data.toArray⟩) (hat : isAt f.name M.files = false) :
    Calls Try.prog 30 #[.pointer (some ⟨m, 0, none⟩), .agg #[.string nm, .string dt, .int .i64 f.safe]] w fun e w' => e = .returned (.tuple #[]) ∧ PutPost w w' B m v M (mput f M.files) := by
  obtain ⟨a, c, rfl, hc⟩ := h.2.1.form
  have hA := h.below ((Below.refl w.heap.size w).alloc (Nat.le_refl _) (.cells #[.string nm, .string dt, .int .i64 f.safe] 45))
  have hfind := find_any hA (by omega) nm
  rw [show bl nm = f.name by rw [hnm, bl_of], hat] at hfind
  obtain ⟨ht1, ht2, hile⟩ := take_hd f.name M.files
  have htl : tl2 f.name M.files = tl f.name M.files := by unfold tl2; rw [hat]; rfl
  have hput : mput f M.files = (M.files.take (hd f.name M.files).length ++ [f]) ++ M.files.drop (hd f.name M.files).length := by
    unfold mput
    rw [ht1, ht2, htl]
    simp
  obtain ⟨i, hi⟩ : ∃ i, i = (hd f.name M.files).length := ⟨_, rfl⟩
  rw [← hi] at hfind hile hput
  obtain ⟨a1, a2, n2, c2, hs1, hs2, hparts⟩ := parts h.2.1 hc i hile
  have HFD := Lib.hid hfind
  have HM := Lib.hid h
  have HPUT := Lib.hid hput
  have HPA := Lib.hid hparts
  have hB : B ≤ w.heap.size := by have := h.2.2; have := h.lt.1; omega
  have HAW : Hid (∀ W, Below (w.alloc (.cells #[.string nm, .string dt, .int .i64 f.safe] 45)).heap.size (w.alloc (.cells #[.string nm, .string dt, .int .i64 f.safe] 45)) W →
      Below w.heap.size w W ∧ w.heap.size < W.heap.size ∧ (W.cell? ⟨w.heap.size, 0, none⟩ = some (.string nm) ∧ W.cell? ⟨w.heap.size, 1, none⟩ = some (.string dt) ∧ W.cell? ⟨w.heap.size, 2, none⟩ = some (.int .i64 f.safe)) ∧
      W.cell? ⟨m, 0, none⟩ = some (.slice a M.files.length c) ∧ W.frozen? ⟨m, 0, none⟩ = false ∧ MRow W B (.slice a M.files.length c) M.files) := Lib.hid fun W hb => by
    have hb1 := ((Below.refl w.heap.size w).alloc (Nat.le_refl _) (.cells #[.string nm, .string dt, .int .i64 f.safe] 45)).trans (hb.mono (by simp))
    have hx : Box W w.heap.size 45 #[.string nm, .string dt, .int .i64 f.safe] := (hb.block w.heap.size (by simp)).trans (heap_alloc_new w _)
    have hM := h.below hb1
    exact ⟨hb1, by have := hb.size; simp at this; omega, ⟨hx.cell 0, hx.cell 1, hx.cell 2⟩, (Box.four hM.1).1.1, (Box.four hM.1).2.1, hM.2.1⟩
  have HN := Lib.hid (And.intro hnm hdt)
  clear hA hfind hput hnm hdt h hi ht1 ht2 htl hparts
  go_enter Try.func30, Try.ntmps30
  go_wp2_with fail
  refine HFD.out.mono ?_
  rintro e w2 ⟨rfl, hb2⟩
  have HB2 := Lib.hid hb2
  obtain ⟨_, _, ⟨e0, e1, e2⟩, c0, _, _⟩ := HAW.out w2 hb2
  have HA3 : Hid (∃ a3 n3 k3 W3, (Builtin.append_ #[28, 28] 28 #[.slice (some ⟨w2.heap.size, 0, none⟩) 0 0, .slice a2 n2 c2]).run Try.prog (w2.alloc (.cells #[] 45)) = .ok (.slice a3 n3 k3) W3 ∧
      MRow W3 B (.slice a3 n3 k3) (M.files.drop i) ∧ Below (w.alloc (.cells #[.string nm, .string dt, .int .i64 f.safe] 45)).heap.size (w.alloc (.cells #[.string nm, .string dt, .int .i64 f.safe] 45)) W3) := Lib.hid (by
    have hz := hb2.size
    have hb : Below w2.heap.size w2 (w2.alloc (.cells #[] 45)) := (Below.refl _ w2).alloc (Nat.le_refl _) _
    obtain ⟨hb1, _, _, _, _, hrow⟩ := HAW.out _ (hb2.trans (hb.mono hz))
    have hx := (HPA.out _ hrow).2
    obtain ⟨a3, k3, W3, hrun, hm3, hu3⟩ := app_own (w2.alloc (.cells #[] 45)) B _ [] (row_empty w2 B (by simp at hz; omega)) _ _ hx (by have := hb.size; simp at hz; omega) (by simp; omega) 28
    exact ⟨a3, _, k3, W3, hrun, hm3, (hb2.trans (hb.mono hz)).grown hu3.1 (by have := hb.size; omega) fun q hq => by
      have : w2.heap.size = q := by simpa [Value.ownBlock] using hq
      omega⟩)
  obtain ⟨a3, n3, k3, W3, hrun3, hm3, hb3⟩ := HA3.out
  obtain ⟨hbw3, hlt3, ⟨E0, E1, E2⟩, C0, F0, hr3⟩ := HAW.out W3 hb3
  have HA5 : Hid (∃ a5 k5 W5 a6 n6 k6 W6, (Builtin.append_ #[28, 28] 28 #[.slice a1 i i, .slice (some ⟨W3.heap.size, 0, none⟩) 1 1]).run Try.prog (W3.alloc (.cells #[.string nm, .string dt, .int .i64 f.safe] 45)).drew = .ok (.slice a5 (i + 1) k5) W5 ∧
      (Builtin.append_ #[28, 28] 28 #[.slice a5 (i + 1) k5, .slice a3 n3 k3]).run Try.prog W5 = .ok (.slice a6 n6 k6) W6 ∧
      MRow W6 B (.slice a6 n6 k6) (mput f M.files) ∧ Below (w.alloc (.cells #[.string nm, .string dt, .int .i64 f.safe] 45)).heap.size (w.alloc (.cells #[.string nm, .string dt, .int .i64 f.safe] 45)) W5 ∧
      Below (w.alloc (.cells #[.string nm, .string dt, .int .i64 f.safe] 45)).heap.size (w.alloc (.cells #[.string nm, .string dt, .int .i64 f.safe] 45)) W6 ∧ ∀ q, (Value.slice a6 n6 k6).ownBlock = some q → w.heap.size ≤ q) := Lib.hid (by
    have hz3 := hb3.size
    have hb4 : Below W3.heap.size W3 (W3.alloc (.cells #[.string nm, .string dt, .int .i64 f.safe] 45)).drew := ((Below.refl _ W3).alloc (Nat.le_refl _) _).drew
    obtain ⟨_, _, _, _, _, hrow4⟩ := HAW.out _ (hb3.trans (hb4.mono hz3))
    have hv := (HPA.out _ hrow4).1
    have hx : RRow (W3.alloc (.cells #[.string nm, .string dt, .int .i64 f.safe] 45)).drew (.slice (some ⟨W3.heap.size, 0, none⟩) 1 1) [f] := .inr ⟨_, 1, rfl, fun j u hj => by
      have h1 : (rcells [f]) = [.string nm, .string dt, .int .i64 f.safe] := by unfold rcells fcells; rw [HN.out.1, HN.out.2]; rfl
      rw [h1] at hj
      have h2 := World.news_of_block (w := (W3.alloc (.cells #[.string nm, .string dt, .int .i64 f.safe] 45)).drew) (heap_alloc_new W3 (.cells #[.string nm, .string dt, .int .i64 f.safe] 45)) j u (by simpa using hj)
      exact h2⟩
    obtain ⟨a5, k5, W5, hrun5, hm5, hg5⟩ := app_clip _ a1 i (M.files.take i) [f] (by rw [List.length_take]; omega) hv _ hx (by simp) (by rw [List.length_take]; simp; omega) 28
    have hb5 : Below W3.heap.size W3 W5 := hb4.grown hg5 hb4.size (fun q hq => by cases hq)
    have hz5 := hb5.size
    have hm3' : MRow W5 B (.slice a3 n3 k3) (M.files.drop i) := hm3.keep fun q hq => hb5.block q (World.ownsRow.lt hm3 q hq).2
    have hz4 := hb4.size
    obtain ⟨a6, k6, W6, hrun6, hm6, hu6⟩ := app_own W5 (W3.alloc (.cells #[.string nm, .string dt, .int .i64 f.safe] 45)).drew.heap.size _ _ hm5 _ _ hm3'.rrow (by have := hg5.size; omega) (by rw [List.length_append, List.length_take, List.length_drop]; simp; omega) 28
    refine ⟨a5, k5, W5, a6, _, k6, W6, hrun5, hrun6, ?_, hb3.trans (hb5.mono hz3), (hb3.trans (hb5.mono hz3)).grown hu6.1 (by omega) fun q hq => by
      have := (World.ownsRow.lt hm5 q hq).1
      omega, fun q hq => by
        simp at hz3
        rcases hu6.2 with h1 | h1
        · rw [h1] at hq
          have := (World.ownsRow.lt hm5 q hq).1
          omega
        · have := h1 q hq
          have := hg5.size
          omega⟩
    rw [HPUT.out]
    exact hm6.mono (by simp at hz3; omega))
  obtain ⟨a5, k5, W5, a6, n6, k6, W6, hrun5, hrun6, hm6, hb5, hb6, hv6⟩ := HA5.out
  obtain ⟨_, _, ⟨_, _, _⟩, C5, F5, _⟩ := HAW.out W5 hb5
  obtain ⟨hbw6, _, ⟨_, _, _⟩, C6, F6, _⟩ := HAW.out W6 hb6
  have HFIN : Hid (PutPost w (W6.setCell ⟨m, 0, none⟩ (.slice a6 n6 k6)) B m (.slice a M.files.length c) M (mput f M.files)) := Lib.hid (by
    have hk : ∀ q, q ≠ m → (W6.setCell ⟨m, 0, none⟩ (.slice a6 n6 k6)).heap[q]? = W6.heap[q]? := fun q hq => Below.heap_setCell W6 ⟨m, 0, none⟩ _ q hq
    have hbox := (HM.out.below hbw6).1
    exact ⟨⟨.slice a6 n6 k6, ⟨hbox.setSame 0 (.slice a6 n6 k6), hm6.keep fun q hq => hk q fun e => hm6.ne hbox (by rw [hq, e]), HM.out.2.2⟩, fun q hq => .inr (hv6 q hq)⟩, hbw6.os, hbw6.tape, hbw6.output, by have := hbw6.size; simp [World.setCell]; omega, fun q hq h1 _ => (hk q h1).trans (hbw6.block q hq)⟩)
  have hm2 : m < w2.heap.size := World.block_lt_of_cell? w2 _ c0
  have hw2 : w.heap.size < w2.heap.size := World.block_lt_of_cell? w2 _ e0
  have hm3' : m < W3.heap.size := World.block_lt_of_cell? W3 _ C0
  have hw3 : w.heap.size < W3.heap.size := World.block_lt_of_cell? W3 _ E0
  clear HFD HM HPUT HPA HAW HN HB2 HA3 HA5 hb2 hm3 hb3 hbw3 hlt3 hr3 hm6 hb5 hb6 hbw6 hv6 hat hB
  go_wp2_with (refine list_run rfl (.tmp 22) (.tmp 28) 28 rfl (.slice (some ⟨w2.heap.size, 0, none⟩) 0 0) (.slice a2 n2 c2) (by simp [Act.eval]) (by simp [Act.eval]) hrun3 ?_)
  go_region_law (first
    | (refine step_run rfl (.tmp 37) (.tmp 39) 28 rfl (.slice a1 i i) (.slice (some ⟨W3.heap.size, 0, none⟩) 1 1) (by simp [Act.eval, Act.put]) (by simp [Act.eval, Act.put]) hrun5 ?_)
    | (refine step_run rfl (.tmp 40) (.tmp 41) 28 rfl (.slice a5 (i + 1) k5) (.slice a3 n3 k3) (by simp [Act.eval]) (by simp [Act.eval]) hrun6 ?_))
  all_goals
    go_wp2
    go_end0
    exact ⟨rfl, HFIN.out⟩

theorem mput_any {w : World} {B m : Nat} {v : Value} {M : MS} (h : MAt w B m v M) (hn : M.files.length ≤ 100000) (f : FileS) (nm dt : ByteArray) (hnm : nm = ⟨f.name.toArray⟩) (hdt : dt = ⟨f.data.toArray⟩) :
    Calls Try.prog 30 #[.pointer (some ⟨m, 0, none⟩), .agg #[.string nm, .string dt, .int .i64 f.safe]] w fun e w' => e = .returned (.tuple #[]) ∧ PutPost w w' B m v M (mput f M.files) := by
  cases hat : isAt f.name M.files with
  | false => exact mput_new h hn f nm dt hnm hdt hat
  | true => exact mput_over h hn f nm dt hnm hdt hat

end Go.Proofs.Ytkeopkhbcmeplaa
