/-
  tree: the laws' head (the chapter's example).
-/
import Derived.Test.YtkohmiegkebmeaaTFromI
import Derived.Test.YtkohmiegkebmeaaTPutNI
import Derived.Test.YtkohmiegkebmeaaTDropWI
namespace Go.Proofs.Ytkohmiegkebmeaa.tI
open Go.RowKit

set_option linter.unusedVariables false
set_option linter.unusedSimpArgs false
attribute [local go_sem] Oper.semAt_some

theorem Ext.toBelow {B : Nat → Prop} {n : Nat} {W W' : World} (h : Ext B W W') (hB : ∀ q, B q → n ≤ q) (hn : n ≤ W.heap.size) : Below n W W' := by
  obtain ⟨h1, h2, h3, h4, h5⟩ := h
  exact ⟨h1, h2, h3, h4, fun q hq => h5 q (Nat.lt_of_lt_of_le hq hn) fun hb => by have := hB q hb; omega⟩

theorem tree_new {n : Nat} (w : World) (h : n ≤ w.heap.size) : TreeAt (n ≤ ·) (w.alloc (.cells #[.slice none 0 0, .int .i64 0] 47)) w.heap.size [] :=
  ⟨h, ⟨by simp, List.Pairwise.nil⟩, by decide, .slice none 0 0, [], h, Box.new _ _ _, ⟨⟨rfl, .inl ⟨rfl, rfl⟩⟩, by simp⟩, by simp [Value.ownBlock], trivial, List.Pairwise.nil⟩

/-- a tree whose blocks all lie from n on, with these keys -/
def TreeOf (n : Nat) (w : World) (t : Nat) (m : List KV) : Prop := ∃ ls, TreeAt (n ≤ ·) w t ls ∧ ls.flatten = m
theorem TreeOf.put {n : Nat} {w : World} {t : Nat} {m : List KV} (h : TreeOf n w t m) (hm : m.length < 50000) (key : ByteArray) (v : Int) :
    Calls Try.prog 16 #[.pointer (some ⟨t, 0, none⟩), .string key, .int .i64 v] w fun e w' => e = .returned (.bool (getK m key).isSome) ∧ Below n w w' ∧ TreeOf n w' t (putK m key (.int .i64 v)) := by
  obtain ⟨ls, hT, rfl⟩ := h
  have hn : n ≤ w.heap.size := by have := hT.lt; have := hT.1; omega
  refine (put_any hT hm key v).mono ?_
  rintro e w' ⟨h1, h2, ls', h3, h4⟩
  exact ⟨h1, h2.toBelow (fun q hq => hq) hn, ls', h3.keep fun q hq _ => ⟨rfl, by rcases hq with h | h <;> omega⟩, h4⟩
theorem TreeOf.drop {n : Nat} {w : World} {t : Nat} {m : List KV} (h : TreeOf n w t m) (key : ByteArray) :
    Calls Try.prog 17 #[.pointer (some ⟨t, 0, none⟩), .string key] w fun e w' => e = .returned (.bool (getK m key).isSome) ∧ Below n w w' ∧ TreeOf n w' t (dropK m key) := by
  obtain ⟨ls, hT, rfl⟩ := h
  have hn : n ≤ w.heap.size := by have := hT.lt; have := hT.1; omega
  refine (drop_any hT key).mono ?_
  rintro e w' ⟨h1, h2, ls', h3, h4⟩
  exact ⟨h1, h2.toBelow (fun q hq => hq) hn, ls', h3.keep fun q hq _ => ⟨rfl, by rcases hq with h | h <;> omega⟩, h4⟩
theorem TreeOf.len {n : Nat} {w : World} {t : Nat} {m : List KV} (h : TreeOf n w t m) :
    Calls Try.prog 15 #[.pointer (some ⟨t, 0, none⟩)] w fun e w' => e = .returned (.int .i64 m.length) ∧ w = w' := by
  obtain ⟨ls, hT, rfl⟩ := h
  exact len_any hT
theorem TreeOf.keepB {n : Nat} {w w' : World} {t : Nat} {m : List KV} (h : TreeOf n w t m) (hk : ∀ q, n ≤ q → q < w.heap.size → w'.heap[q]? = w.heap[q]?) : TreeOf n w' t m := by
  obtain ⟨ls, hT, e⟩ := h
  exact ⟨ls, hT.keep fun q hq hl => ⟨hk q hq hl, hq⟩, e⟩

def keyA : ByteArray := ⟨#[97]⟩
def keyB : ByteArray := ⟨#[98]⟩
def keyC : ByteArray := ⟨#[99]⟩
def exI : List KV := dropK (putK (putK (putK [] keyB (.int .i64 1)) keyA (.int .i64 2)) keyC (.int .i64 3)) keyB
theorem exI_is : exI = [(keyA, .int .i64 2), (keyC, .int .i64 3)] := by kernel_rfl
theorem exF_is : fromK [(keyA, .int .i64 2), (keyC, .int .i64 3)] keyA = [(keyA, .int .i64 2), (keyC, .int .i64 3)] := by kernel_rfl
def intV : Value → Int | .int _ n => n | _ => 0
def catK (l : List KV) : ByteArray := l.foldl (fun s p => s ++ p.1) ⟨#[]⟩
def sumK (l : List KV) : Int := l.foldl (fun n p => wrap64 (n + intV p.2)) 0
theorem catK_snoc (l : List KV) (p : KV) : catK (l ++ [p]) = catK l ++ p.1 := by simp [catK]
theorem sumK_snoc (l : List KV) (p : KV) : sumK (l ++ [p]) = wrap64 (sumK l + intV p.2) := by simp [sumK]

theorem catK_size_go : ∀ (l : List KV) (s : ByteArray), (∀ p ∈ l, p.1.size ≤ 9) → (l.foldl (fun s p => s ++ p.1) s).size ≤ s.size + 9 * l.length
  | [], s, _ => by simp
  | p :: l, s, h => by
    have h1 := catK_size_go l (s ++ p.1) fun q hq => h q (List.mem_cons_of_mem _ hq)
    have h2 := h p List.mem_cons_self
    rw [ByteArray.size_append] at h1
    simp only [List.foldl_cons, List.length_cons]
    omega
theorem catK_size {l : List KV} (h : ∀ p ∈ l, p.1.size ≤ 9) : (catK l).size ≤ 9 * l.length := by
  have h1 := catK_size_go l ⟨#[]⟩ h
  have h2 : (⟨#[]⟩ : ByteArray).size = 0 := rfl
  unfold catK
  omega

set_option maxHeartbeats 4000000 in
set_option maxRecDepth 100000 in
theorem head_any (W : World) : Calls Try.prog 9 #[] W fun e w' => e = .returned (.bool true) ∧ Below W.heap.size W w' := by
  refine (callsIn_wide (n := 3)).1 (callsIn_of_wp_marks Try.func9 rfl trivial ?_)
  simp only [Try.ntmps9, List.size_toArray, List.length_cons, List.length_nil, Nat.reduceAdd, Nat.reduceSub, Array.replicate_succ, Array.replicate_zero, List.push_toArray, List.append_toArray, List.nil_append, List.cons_append]
  refine (wpIn_wide (n := 3)).2 ?_
  have h0 : Hid (TreeOf W.heap.size (W.alloc (.cells #[.slice none 0 0, .int .i64 0] 47)) W.heap.size []) := Lib.hid ⟨[], tree_new W (Nat.le_refl _), rfl⟩
  have hb0 : Hid (Below W.heap.size W (W.alloc (.cells #[.slice none 0 0, .int .i64 0] 47))) := Lib.hid ((Below.refl _ W).alloc (Nat.le_refl _) _)
  go_wp2_with fail
  refine (h0.out.put (by decide) keyB 1).mono ?_
  rintro e w1 ⟨rfl, hb1', hT1⟩
  have h1 := Lib.hid hT1
  have hb1 := Lib.hid (hb0.out.trans hb1')
  clear h0 hb0 hb1' hT1
  go_wp2_with fail
  refine (h1.out.put (by decide) keyA 2).mono ?_
  rintro e w2 ⟨rfl, hb1', hT1⟩
  have h2 := Lib.hid hT1
  have hb2 := Lib.hid (hb1.out.trans hb1')
  clear h1 hb1 hb1' hT1
  go_wp2_with fail
  refine (h2.out.put (by decide) keyC 3).mono ?_
  rintro e w3 ⟨rfl, hb1', hT1⟩
  have h3 := Lib.hid hT1
  have hb3 := Lib.hid (hb2.out.trans hb1')
  clear h2 hb2 hb1' hT1
  go_wp2_with fail
  refine (h3.out.drop keyB).mono ?_
  rintro e w4 ⟨rfl, hb1', hT1⟩
  have h4 := Lib.hid hT1
  have hb4 := Lib.hid (hb3.out.trans hb1')
  clear h3 hb3 hb1' hT1
  rw [show dropK (putK (putK (putK [] keyB (.int .i64 1)) keyA (.int .i64 2)) keyC (.int .i64 3)) keyB = exI from rfl, exI_is] at h4
  go_wp2_with fail
  have hl4 := h4.out.len
  simp only [List.length_cons, List.length_nil, Nat.reduceAdd] at hl4
  refine hl4.mono ?_
  rintro e w5 ⟨rfl, rfl⟩
  have h5 := h4
  have hb5 := hb4
  go_wp2_with fail
  refine (from_any _ keyA _).mono ?_
  rintro e w6 ⟨rfl, rfl⟩
  have bS := Boxed.new w4 9 (.string ⟨#[]⟩)
  have bN := Boxed.new (w4.alloc (.cells #[.string ⟨#[]⟩] 9)) 3 (.int .i64 0)
  rw [World.size_alloc] at bN
  have hB1 : Below w4.heap.size w4 ((((w4.alloc (.cells #[.string ⟨#[]⟩] 9)).alloc (.cells #[.int .i64 0] 3)).alloc (.cells #[.pointer (some ⟨W.heap.size, 0, none⟩)] 25)).alloc (.cells #[.string keyA] 9)) :=
    ((((Below.refl _ w4).alloc (Nat.le_refl _) _).alloc (by simp) _).alloc (by simp; omega) _).alloc (by simp; omega) _
  have bS2 := ((bS.alloc (.cells #[.int .i64 0] 3)).alloc (.cells #[.pointer (some ⟨W.heap.size, 0, none⟩)] 25)).alloc (.cells #[.string keyA] 9)
  have bN2 := (bN.alloc (.cells #[.pointer (some ⟨W.heap.size, 0, none⟩)] 25)).alloc (.cells #[.string keyA] 9)
  have bT := (Boxed.new ((w4.alloc (.cells #[.string ⟨#[]⟩] 9)).alloc (.cells #[.int .i64 0] 3)) 25 (.pointer (some ⟨W.heap.size, 0, none⟩))).alloc (.cells #[.string keyA] 9)
  have bK := Boxed.new (((w4.alloc (.cells #[.string ⟨#[]⟩] 9)).alloc (.cells #[.int .i64 0] 3)).alloc (.cells #[.pointer (some ⟨W.heap.size, 0, none⟩)] 25)) 9 (.string keyA)
  simp only [World.size_alloc] at bT bK
  have HALL := Lib.hid (And.intro hB1 (And.intro bS2 (And.intro bN2 (And.intro bT bK))))
  have hsz4 : W.heap.size ≤ w4.heap.size := hb4.out.size
  clear bS bN hB1 bS2 bN2 bT bK h4 hb4 hl4
  go_wp2_with fail
  obtain ⟨W6, hW6⟩ : ∃ W6, W6 = ((((w4.alloc (.cells #[.string ⟨#[]⟩] 9)).alloc (.cells #[.int .i64 0] 3)).alloc (.cells #[.pointer (some ⟨W.heap.size, 0, none⟩)] 25)).alloc (.cells #[.string keyA] 9)) := ⟨_, rfl⟩
  have hsz : W6.heap.size = w4.heap.size + 4 := by rw [hW6]; simp
  rw [← hW6] at HALL ⊢
  clear hW6
  obtain ⟨hB1, bS, bN, bT, bK⟩ := HALL.out
  have hT6 : ∃ ls, TreeAt (fun q => W.heap.size ≤ q ∧ q < w4.heap.size) W6 W.heap.size ls ∧ ls.flatten = [(keyA, .int .i64 2), (keyC, .int .i64 3)] := by
    obtain ⟨ls, hT, e⟩ := h5.out
    exact ⟨ls, hT.keep fun q hq hl => ⟨hB1.block q hl, hq, hl⟩, e⟩
  obtain ⟨ls, hT, hls⟩ := hT6
  have hfr : fromK ls.flatten keyA = [(keyA, .int .i64 2), (keyC, .int .i64 3)] := by rw [hls]; exact exF_is
  have hst := from_stops 2 (w4.heap.size + 2) (w4.heap.size + 3) w4.heap.size _ W.heap.size ls keyA W6 (fun p => IsV p.2 ∧ p.1.size ≤ 9) (fun q hq => hq.2) hB1.size hT (by rw [hls]; intro p hp; simp at hp; rcases hp with rfl | rfl <;> exact ⟨_, rfl⟩) (by rw [hls]; intro p hp; simp at hp; rcases hp with rfl | rfl <;> exact ⟨⟨_, rfl⟩, by decide⟩) bT.cell bK.cell bT.lt bK.lt
  rw [hfr] at hst
  refine (wpIn_wide (n := 3)).1 ?_
  refine' wpIn_rangeFunc_ownG rfl (by omega) (gf := 23) (lb := #[.pointer (some ⟨w4.heap.size + 2, 0, none⟩), .pointer (some ⟨w4.heap.size + 3, 0, none⟩)]) rfl trivial (enters_of Try.func23 (by kernel_rfl) rfl)
    hst (fun h k => h.trans k) (KpB.turn hB1.size) (Below.refl _ _) (fun _ => rfl)
    (fun pre W' => (Boxed W' w4.heap.size 9 (.string (catK (pre.map Subtype.val))) ∧ Boxed W' (w4.heap.size + 1) 3 (.int .i64 (sumK (pre.map Subtype.val)))) ∧ Below w4.heap.size W6 W')
    (fun _ _ _ => False)
    (OwnFrom.and (OwnFrom.and (Own.from (boxed_own _ _ _) _) (Own.from (boxed_own _ _ _) _)) (ownFrom_below hB1.size hB1.size))
    (fun _ _ _ _ _ hs _ _ => hs)
    ⟨⟨bS, bN⟩, Below.refl _ _⟩
    _ ?assign ?body ?done ?stop
  case assign =>
    intro l x W K hK
    gi_wp2
    exact hK
  case body =>
    rintro l pre x W' ⟨⟨bs, bn⟩, hB⟩ hlen
    obtain ⟨z, hz⟩ : ∃ z, x.1.2 = .int .i64 z := x.2.1
    obtain ⟨xk, hxk⟩ : ∃ xk, x.1.1 = xk := ⟨_, rfl⟩
    simp only [hz, hxk]
    have hs2 : xk.size ≤ 9 := by rw [← hxk]; exact x.2.2
    have hs1 := catK_size (l := pre.map Subtype.val) (fun p hp => by obtain ⟨y, _, rfl⟩ := List.mem_map.1 hp; exact y.2.2)
    rw [List.length_map] at hs1
    have hs3 : pre.length < 2 := by simpa using hlen
    obtain ⟨s0, hs0⟩ : ∃ s0, s0 = catK (pre.map Subtype.val) := ⟨_, rfl⟩
    obtain ⟨n0, hn0⟩ : ∃ n0, n0 = sumK (pre.map Subtype.val) := ⟨_, rfl⟩
    rw [← hs0] at bs hs1
    rw [← hn0] at bn
    have hs4 : s0.size ≤ 100 := by omega
    have HX := Lib.hid (And.intro hz (And.intro hxk (And.intro hs0 hn0)))
    have hc1 := bs.cell
    have hc2 := bn.cell
    have hf1 := bs.frozen
    have hf2 := bn.frozen
    have HBX := Lib.hid (And.intro bs (And.intro bn hB))
    have hfar : w4.heap.size ≠ w4.heap.size + 1 := by omega
    clear hz hxk bs bn hB hs1 hs3 hlen hs0 hn0
    gi_wp2
    obtain ⟨bs, bn, hB⟩ := HBX.out
    obtain ⟨hz, hxk, hs0, hn0⟩ := HX.out
    have hB1' := hB.setCell (p := ⟨w4.heap.size, 0, none⟩) (Nat.le_refl _) (.string (s0 ++ xk))
    refine ⟨((KeepsOthers.setCell _ _ _).trans (KeepsOthers.setCell _ _ _)).from _, KpB.below (((Below.refl _ W').setCell (p := ⟨w4.heap.size, 0, none⟩) (Nat.le_refl _) _).setCell (p := ⟨w4.heap.size + 1, 0, none⟩) (by simp) _) (Nat.le_refl _), ⟨?_, ?_⟩, hB1'.setCell (p := ⟨w4.heap.size + 1, 0, none⟩) (by simp) _⟩
    · rw [List.map_append, List.map_cons, List.map_nil, catK_snoc, ← hs0, hxk]
      exact (bs.set _).other (by omega) _
    · rw [List.map_append, List.map_cons, List.map_nil, sumK_snoc, ← hn0, hz]
      exact (bn.other (by omega) _).set _
  case done =>
    rintro D ys W' hD e ⟨⟨bs, bn⟩, hB⟩ hK
    rw [e] at bs bn
    have e1 : catK [(keyA, .int .i64 2), (keyC, .int .i64 3)] = ⟨#[97, 99]⟩ := by kernel_rfl
    have e2 : sumK [(keyA, .int .i64 2), (keyC, .int .i64 3)] = 5 := by kernel_rfl
    rw [e1] at bs
    rw [e2] at bn
    have hT9 : TreeOf W.heap.size W' W.heap.size [(keyA, .int .i64 2), (keyC, .int .i64 3)] := by
      obtain ⟨ls', hT', e'⟩ := h5.out
      exact ⟨ls', hT'.keep fun q hq hl => ⟨((hB1.trans hB).block q hl), hq⟩, e'⟩
    have hl9 := hT9.len
    simp only [List.length_cons, List.length_nil, Nat.reduceAdd] at hl9
    have hc1 := bs.cell
    have hc2 := bn.cell
    have HK := Lib.hid (And.intro hK (hb5.out.trans ((hB1.trans hB).mono hsz4)))
    have HD := Lib.hid hD
    clear bs bn hK hB hT9 e hD
    go_wp2_with fail
    refine hl9.mono ?_
    rintro e w7 ⟨rfl, rfl⟩
    go_wp2_with fail
    obtain ⟨hK, hBW⟩ := HK.out
    refine ⟨by simp, .inl ⟨_, _, rfl, run_takeDeferred hK, ?_⟩⟩
    exact ⟨_, results_tmp rfl _ _ _, rfl, hBW.trans (belowK_b (w := W) (Nat.le_refl _) W' D _ _ (by have := HD.out; omega) hK rfl rfl)⟩
  case stop =>
    rintro D c pre W' _ _ h _
    exact h.elim

end Go.Proofs.Ytkohmiegkebmeaa.tI
