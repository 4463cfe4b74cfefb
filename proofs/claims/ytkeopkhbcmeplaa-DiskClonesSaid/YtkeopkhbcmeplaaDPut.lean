/-
  disk.put: a file laid, in place of the one that has the name.
-/
import Derived.Test.YtkeopkhbcmeplaaDBase
import Derived.StillTailTactics
import Derived.Deep.DeepCutAuto
import Derived.Outline
import Derived.Laws.Cover3
namespace Go.Proofs.Ytkeopkhbcmeplaa
open Go.RowKit

attribute [local irreducible] wpStill

theorem Bs.lenEq {E B : Nat} {w : World} {v : Value} {l : List UInt8} (h : Bs E B w v l) : ∃ a c, v = .slice a l.length c := by
  rcases h.2 with ⟨rfl, h0⟩ | ⟨g, cap, cur, rfl, _⟩
  · exact ⟨none, 0, by rw [h0]⟩
  · exact ⟨_, _, rfl⟩

theorem zeroFile (w : World) : (zeroValue 69).run Try.prog w = .ok (.agg #[.slice none 0 0, .int .i64 0]) w := by kernel_rfl

/-- how many bytes the file of that name has -/
def lenOf (k : L8) (fs : List FP) : Nat := match getP k fs with | some p => p.1.data.length | none => 0

theorem look_len {w : World} {B d mb n : Nat} {S : DS} {fs : List FP} (h : DiskAt w B d mb n S fs) (s : ByteArray) (hs : s.size ≤ maxLen) :
    ∃ a c sf, (Instr.lookup 61 (.map (some mb)) (.string s) false).run Try.prog w = .ok (.agg #[.slice a (lenOf s.data.toList fs) c, .int .i64 sf]) w := by
  have hr := MapAt.look (e := 69) h.2.1 Try.underlying9 Try.underlying61 (zeroFile w) s hs false
  rw [fvals_get] at hr
  unfold lenOf
  cases hg : getP s.data.toList fs with
  | none =>
    rw [hg] at hr
    exact ⟨none, 0, 0, hr⟩
  | some p =>
    rw [hg] at hr
    obtain ⟨a, c, e⟩ := Bs.lenEq (h.2.2.1 p (List.mem_of_find?_eq_some hg))
    refine ⟨a, c, p.1.safe, ?_⟩
    have e2 : fileV p = .agg #[.slice a p.1.data.length c, .int .i64 p.1.safe] := by unfold fileV; rw [e]
    rw [← e2]
    exact hr

theorem map_not_nil (b : Nat) (W : World) : (binOp .eql 61 (.map (some b)) (.map none)).run Try.prog W = .ok (.bool false) W := by
  have h := run_equal_map_nil (P := Try.prog) W 61 _ _ (some b) Try.underlying61
  simp [binOp, h, Result.andThen]

theorem DKept.trans {w w1 w2 : World} {f : Nat → Prop} (h : DKept w w1 f) (k : DKept w1 w2 f) : DKept w w2 f :=
  ⟨k.1.trans h.1, k.2.1.trans h.2.1, k.2.2.1.trans h.2.2.1, Nat.le_trans h.2.2.2.1 k.2.2.2.1, fun q hq hf => (k.2.2.2.2 q (Nat.lt_of_lt_of_le hq h.2.2.2.1) hf).trans (h.2.2.2.2 q hq hf)⟩

theorem insP_pairwise {R : FP → FP → Prop} {x : FP} : ∀ {fs : List FP}, fs.Pairwise R → (∀ p ∈ fs, R x p ∧ R p x) → (insP x fs).Pairwise R
  | [], _, _ => by simp [insP]
  | y :: r, h, hx => by
    rw [insP]
    have h1 := List.pairwise_cons.1 h
    by_cases g : bytesBefore x.1.name y.1.name = true
    · rw [if_pos g]
      exact List.pairwise_cons.2 ⟨fun p hp => (hx p hp).1, h⟩
    · rw [if_neg g]
      refine List.pairwise_cons.2 ⟨fun p hp => ?_, insP_pairwise h1.2 fun p hp => hx p (List.mem_cons_of_mem _ hp)⟩
      rcases insP_mem hp with rfl | hp
      · exact (hx y (List.mem_cons_self ..)).2
      · exact h1.1 p hp

/-- the disk behind the map's store -/
theorem DiskAt.putted {w w' : World} {B d mb n m : Nat} {S : DS} {fs : List FP} (h : DiskAt w B d mb n S fs) (f : FileS) (sv : Value) (hsv : Bs 5 B w sv f.data) (hd : sv.ownBlock ≠ some d) (hm : sv.ownBlock ≠ some mb)
    (ho : ∀ p ∈ delP f.name fs, sv.ownBlock = none ∨ sv.ownBlock ≠ p.2.ownBlock) (hmap : MapAt 9 w' mb m (putS f.name (fileV (f, sv)) (fvals fs))) (hg : w.grownBy w' (some mb)) : DiskAt w' B d mb m S (putP (f, sv) fs) := by
  obtain ⟨h1, h2, h3, h4, h5, h6, h7, h8⟩ := h
  have hk : ∀ q, q < w.heap.size → q ≠ mb → w'.heap[q]? = w.heap[q]? := fun q hq hne => hg.block q hq (fun e => hne (Option.some.inj e))
  have hrow : ∀ {v : Value} {l : List UInt8}, Bs 5 B w v l → v.ownBlock ≠ some mb → Bs 5 B w' v l := fun hb hne => bs_keep hb fun q hq => hk q (World.ownsRow.lt hb q hq).2 (fun e => hne (by rw [hq, e]))
  have hmem : ∀ p ∈ putP (f, sv) fs, p = (f, sv) ∨ p ∈ fs := fun p hp => (insP_mem hp).imp id delP_mem
  refine ⟨(hk d h1.lt h6).trans h1, by rw [fvals_put]; exact hmap, fun p hp => ?_, h4, h5, h6, fun p hp => ?_, insP_pairwise (h8.sublist (List.filter_sublist ..)) fun p hp => ?_⟩
  · rcases hmem p hp with rfl | hp
    · exact hrow hsv hm
    · exact hrow (h3 p hp) (h7 p hp).2
  · rcases hmem p hp with rfl | hp
    · exact ⟨hd, hm⟩
    · exact h7 p hp
  · have h9 := ho p hp
    refine ⟨h9, ?_⟩
    rcases h9 with h9 | h9
    · by_cases h10 : p.2.ownBlock = none
      · exact .inl h10
      · exact .inr fun e => h10 (e.trans h9)
    · exact .inr fun e => h9 e.symm

set_option maxHeartbeats 4000000 in
set_option maxRecDepth 100000 in
theorem put_any {B d mb n : Nat} {S : DS} {fs : List FP} (w : World) (h : DiskAt w B d mb n S fs) (s : ByteArray) (hs : s.size ≤ maxLen) (f : FileS) (hf : f.name = s.data.toList) (a : Option Addr) (c : Nat) (hn : n < 1000000)
    (hsv : Bs 5 B w (.slice a f.data.length c) f.data) (hd : (Value.slice a f.data.length c).ownBlock ≠ some d) (hm : (Value.slice a f.data.length c).ownBlock ≠ some mb)
    (ho : ∀ p ∈ delP f.name fs, (Value.slice a f.data.length c).ownBlock = none ∨ (Value.slice a f.data.length c).ownBlock ≠ p.2.ownBlock)
    (hu2 : S.used ≤ 1000000000) (hL : f.data.length ≤ 1000000000) (hl : (lenOf s.data.toList fs : Int) ≤ S.used) :
    Calls Try.prog 33 #[.pointer (some ⟨d, 0, none⟩), .string s, .agg #[.slice a f.data.length c, .int .i64 f.safe]] w fun e w' => e = .returned (.tuple #[]) ∧
      DiskAt w' B d mb (n + 1) { S with used := S.used + ((f.data.length : Int) - lenOf s.data.toList fs) } (putP (f, .slice a f.data.length c) fs) ∧ DKept w w' (Foot d mb fs) := by
  have hkA : DKept w (w.alloc (.cells #[.slice a f.data.length c, .int .i64 f.safe] 69)) (Foot d mb fs) := ⟨rfl, rfl, rfl, by simp, fun q hq _ => Below.heap_alloc w _ q hq⟩
  have hft : ∀ q, Foot d mb fs q → q < w.heap.size := fun q hq => by
    rcases hq with rfl | rfl | ⟨p, hp, hq⟩
    · exact h.1.lt
    · exact h.2.1.lt
    · exact (World.ownsRow.lt (h.2.2.1 p hp) q hq).2
  have hA : DiskAt (w.alloc (.cells #[.slice a f.data.length c, .int .i64 f.safe] 69)) B d mb n S fs := h.keep fun q hq => Below.heap_alloc w _ q (hft q hq)
  obtain ⟨a1, c1, sf1, hlook⟩ := look_len (hA.keep (w' := (w.alloc (.cells #[.slice a f.data.length c, .int .i64 f.safe] 69)).drew) fun q _ => rfl) s hs
  have hltd : d < w.heap.size := hft d (.inl rfl)
  obtain ⟨⟨c0, c1', c2, c3, c4, c5⟩, f0, f1, f2, f3, f4, f5⟩ := Box.six hA.1
  obtain ⟨⟨b0, b1, b2, b3, b4, b5⟩, g0, g1, g2, g3, g4, g5⟩ := Box.six h.1
  obtain ⟨K, hK⟩ : ∃ K, K = lenOf s.data.toList fs := ⟨_, rfl⟩
  rw [← hK] at hlook hl ⊢
  have HKK := Lib.hid hK
  obtain ⟨L, hLL⟩ : ∃ L, L = f.data.length := ⟨_, rfl⟩
  have hw1 : IntKind.i64.wrap ((f.data.length : Int) - (K : Int)) = (f.data.length : Int) - (K : Int) := by rw [IntKind.wrap_i64]; omega
  have hw2 : IntKind.i64.wrap (S.used + ((f.data.length : Int) - (K : Int))) = S.used + ((f.data.length : Int) - (K : Int)) := by rw [IntKind.wrap_i64]; omega
  have hsz1 : (w.setCell ⟨d, 2, none⟩ (.int .i64 (S.used + ((f.data.length : Int) - (K : Int))))).heap.size = w.heap.size := by simp [World.setCell]
  have hszX : (((w.setCell ⟨d, 2, none⟩ (.int .i64 (S.used + ((f.data.length : Int) - (K : Int))))).alloc (.cells #[.slice a f.data.length c, .int .i64 f.safe] 69)).drew.drew).heap.size = w.heap.size + 1 := by
    show ((w.setCell ⟨d, 2, none⟩ (.int .i64 (S.used + ((f.data.length : Int) - (K : Int))))).alloc (.cells #[.slice a f.data.length c, .int .i64 f.safe] 69)).heap.size = _
    simp [World.setCell]
  have hS1 := h.set (S' := { S with used := S.used + ((f.data.length : Int) - (K : Int)) }) 2 (.int .i64 (S.used + ((f.data.length : Int) - (K : Int)))) rfl
  have HDX := Lib.hid (hS1.keep (w' := ((w.setCell ⟨d, 2, none⟩ (.int .i64 (S.used + ((f.data.length : Int) - (K : Int))))).alloc (.cells #[.slice a f.data.length c, .int .i64 f.safe] 69)).drew.drew) fun q hq => (Below.heap_alloc (w.setCell ⟨d, 2, none⟩ (.int .i64 (S.used + ((f.data.length : Int) - (K : Int))))) _ q (by rw [hsz1]; exact hft q hq)))
  have HSX : Hid (Bs 5 B (((w.setCell ⟨d, 2, none⟩ (.int .i64 (S.used + ((f.data.length : Int) - (K : Int))))).alloc (.cells #[.slice a f.data.length c, .int .i64 f.safe] 69)).drew.drew) (.slice a f.data.length c) f.data) := Lib.hid (bs_keep hsv fun q hq => (Below.heap_alloc (w.setCell ⟨d, 2, none⟩ (.int .i64 (S.used + ((f.data.length : Int) - (K : Int))))) _ q (by rw [hsz1]; exact (World.ownsRow.lt hsv q hq).2)).trans (Below.heap_setCell w ⟨d, 2, none⟩ _ q (fun e => hd (by rw [hq, e]))))
  have HKX : Hid (DKept w (((w.setCell ⟨d, 2, none⟩ (.int .i64 (S.used + ((f.data.length : Int) - (K : Int))))).alloc (.cells #[.slice a f.data.length c, .int .i64 f.safe] 69)).drew.drew) (Foot d mb fs)) := Lib.hid ⟨rfl, rfl, rfl, by rw [hszX]; omega, fun q hq hf => (Below.heap_alloc (w.setCell ⟨d, 2, none⟩ (.int .i64 (S.used + ((f.data.length : Int) - (K : Int))))) _ q (by rw [hsz1]; exact hq)).trans (Below.heap_setCell w ⟨d, 2, none⟩ _ q (fun e => hf (.inl e)))⟩
  have hkey : keyOf Try.prog 9 (.string s) = some (.string s.data.toList) := Go.WideMaps.keyOf_string_mk Try.underlying9 hs
  have HS := Lib.hid (hA.set (S' := { S with used := S.used + ((f.data.length : Int) - (K : Int)) }) 2 (.int .i64 (S.used + ((f.data.length : Int) - (K : Int)))) rfl)
  have HA := Lib.hid hA
  have HKA := Lib.hid hkA
  have HSV := Lib.hid hsv
  have HO := Lib.hid ho
  have HD := Lib.hid hd
  have HM := Lib.hid hm
  have HF := Lib.hid hf
  have HFT := Lib.hid hft
  clear hK hLL hA hkA hsv ho hd hm hf hft h hs hS1 hsz1 hszX
  have hnil := map_not_nil mb
  have hfd : ∀ W : World, (Instr.field 69 (.agg #[.slice a1 K c1, .int .i64 sf1]) 0).run Try.prog W = .ok (.slice a1 K c1) W := fun _ => by kernel_rfl
  have hne : w.heap.size ≠ d := by omega
  go_enter Try.func33, Try.ntmps33
  go_wp2_with fail
  refine wp_region_still_tail 19 (by kernel_rfl) (by kernel_rfl) ?_
  change wpStill _ _ (World.drew _) (fun a' => wpList _ _ _ _ a' (World.drew _)) _ _
  simp only [List.take_succ_cons, List.take_zero, List.drop_succ_cons, List.drop_zero]
  repeat still_step
  refine wpStill_nil ?_
  go_wp2_with fail
  refine wp_region_still_tail 6 (by kernel_rfl) (by kernel_rfl) ?_
  change wpStill _ _ (World.drew _) (fun a' => wpList _ _ _ _ a' (World.drew _)) _ _
  simp only [List.take_succ_cons, List.take_zero, List.drop_succ_cons, List.drop_zero]
  repeat still_step
  refine wpStill_nil ?_
  have hsto := HDX.out.2.1
  refine wpList_mapUpdate_own _ rfl (.tmp 37) (.tmp 38) (.tmp 39) 61 rfl 9 69 (Maps.string_keyed Try.underlying9) Try.underlying61 RV mb n (dm (fvals fs)) rfl hsto (by unfold maxLen; omega) _ _ (.string s.data.toList) rfl rfl hkey _ _ rfl ?_
  intro w' hm1 hg1
  rw [dm_put] at hm1
  have hfin := HDX.out.putted f _ HSX.out HD.out HM.out HO.out (by rw [HF.out]; exact hm1) hg1
  have hkept := HKX.out.trans (show DKept _ w' (Foot d mb fs) from ⟨hg1.os, hg1.tape, hg1.output, hg1.size, fun q hq hf => hg1.block q hq fun e => hf (.inr (.inl (Option.some.inj e)))⟩)
  have HFK := Lib.hid (And.intro hfin hkept)
  clear hfin hkept hm1 hg1 hsto
  go_wp2_with fail
  go_end0
  exact ⟨rfl, HFK.out⟩

end Go.Proofs.Ytkeopkhbcmeplaa
