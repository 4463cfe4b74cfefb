/-
  store: clone: a commit that shares no list with the one it is of.
  store: one commit more behind the commits of a store, in memory.
  store: Commit: a commit taken in, or not.
  store: Free: whether nobody wrote keys behind a commit.
  store: Versions: how many versions are kept.
  store: a new chain put into the tree, and a key dropped; cut: what is let go of one key.
  store: what is let go of some keys, plainly: key by key, in any order.
  store: keysOf: the keys that commits wrote, as a map; a list of commits in memory.
  store: Vacuum: what nobody sees is let go.
  store: Vacuum: its walk.
  store, plainly: keys with one more version, commits, what is kept within bounds.
-/
import Derived.Test.YtcebnoapgceodaaStF
import Derived.Outline
import Derived.Shelf.Spec.SlicesInsertGrow
import Derived.Deep.RegionLaw
import Derived.Test.YtcebnoapgceodaaSA
import Derived.Test.YtcebnoapgceodaaTFromC
import Derived.Test.YtcebnoapgceodaaRangeR
import Derived.Test.YtcebnoapgceodaaTDropWC
import Derived.Test.YtcebnoapgceodaaDMap
import Derived.Sort.MapsRangeIn
section
namespace Go.Proofs.Ytcebnoapgceodaa.sT
open Go.RowKit Go.Proofs.Ytcebnoapgceodaa.tC Go.Lib

set_option linter.unusedVariables false
set_option linter.unusedSimpArgs false

theorem infoWr : (Try.prog.info? 48).map (fun i => (i.zero, i.size, i.bytes)) = some (some (.agg #[.string ⟨#[]⟩, .string ⟨#[]⟩, .bool false]), 3, 40) := by kernel_rfl
theorem wrow_len : ∀ ws : List Wr, (ws.flatMap wrcells).length = ws.length * 3
  | [] => rfl
  | w :: r => by
    rw [List.flatMap_cons, List.length_append, wrow_len r, List.length_cons]
    show 3 + _ = _
    omega
theorem wrow_one (ws : List Wr) : ∀ u ∈ ws.flatMap wrcells, u.oneCell' = true := fun u hu => by
  obtain ⟨x, _, hx⟩ := List.mem_flatMap.1 hu
  simp [wrcells] at hx
  rcases hx with rfl | rfl | rfl <;> rfl
theorem wrow_get : ∀ (ws : List Wr) (i : Nat) (h : i < ws.length) (j : Nat), j < 3 → (ws.flatMap wrcells)[i * 3 + j]? = (wrcells (ws[i]))[j]?
  | w :: r, 0, _, j, hj => by
    rw [List.flatMap_cons, List.getElem?_append_left (by simp [wrcells]; omega)]
    simp
  | w :: r, i + 1, h, j, hj => by
    rw [List.flatMap_cons, List.getElem?_append_right (by simp [wrcells]; omega)]
    rw [show (i + 1) * 3 + j - (wrcells w).length = i * 3 + j by show _ - 3 = _; omega]
    exact wrow_get r i (by simpa using h) j hj

def WClnP (W : World) (ws : List Wr) (e : Ending) (W' : World) : Prop := ∃ a c, e = .returned (.slice a ws.length c) ∧ RowK 48 3 W.heap.size W' (.slice a ws.length c) ws.length (ws.flatMap wrcells) ∧ Below W.heap.size W W'

set_option maxHeartbeats 1000000 in
set_option maxRecDepth 100000 in
theorem wclone_any {W : World} {a : Option Addr} {len cap : Nat} {ws : List Wr} (h : WrsIs W a ws) (hl : ws.length = len) (hle : len ≤ 1000000) :
    Calls Try.prog 131 #[.slice a len cap] W (WClnP W ws) := by
  subst hl
  cases a with
  | none =>
    obtain rfl : ws = [] := by
      rcases h with h | ⟨b, off, e, _⟩
      · exact h
      · cases e
    have HF : Hid (WClnP W [] (.returned (.slice none 0 0)) W) := Lib.hid ⟨none, 0, rfl, ⟨World.ownsRow_nil W _ _ 3, fun u hu => by simp at hu⟩, Below.refl _ _⟩
    have heq := fun w' => Lib.run_eql_slice_nil (P := Try.prog) w' 22 48 none 0 cap 0 0 Try.underlying22
    clear h
    rw [List.length_nil]
    go_enter Try.func131, Try.ntmps131
    go_wp2
    go_ret
    exact HF.out
  | some ad =>
    obtain ⟨i, hi, hz, hi1, hi2⟩ := info_parts infoWr
    have hown := World.ownsRow_lit (base := W.heap.size) (e := 48) (size := 3) W #[] 0 (Nat.le_refl _) (by unfold maxLen; omega) rfl
    have hb0 : Below W.heap.size W (W.alloc (.cells #[] 48)) := (Below.refl _ W).alloc (Nat.le_refl _) _
    have hcells : ∀ j u, (ws.flatMap wrcells)[j]? = some u → (W.alloc (.cells #[] 48)).cell? (ad.add j) = some u := fun j u hj => by
      have hj2 : j < ws.length * 3 := by rw [← wrow_len]; exact (List.getElem?_eq_some_iff.1 hj).1
      obtain ⟨b, off, e, hlt, hv⟩ : ∃ b off, some ad = some ⟨b, off, none⟩ ∧ b < W.heap.size ∧ ∀ i (h : i < ws.length), WrIn W b (off + i * 3) (ws[i]) := by
        rcases h with h | h
        · rw [h] at hj2; simp at hj2
        · exact h
      injection e with e
      subst e
      rw [addr_off]
      have hw := ((Below.refl W.heap.size W).alloc (Nat.le_refl _) (.cells #[] 48)).cell (p := ⟨b, off + j, none⟩) hlt
      rw [hw]
      obtain ⟨h0, h1, h2⟩ := hv (j / 3) (by omega)
      have e3 : j = j / 3 * 3 + j % 3 := by omega
      rw [e3, wrow_get ws (j / 3) (by omega) (j % 3) (by omega)] at hj
      have hm : j % 3 = 0 ∨ j % 3 = 1 ∨ j % 3 = 2 := by omega
      rcases hm with hm | hm | hm
      · rw [hm] at hj; rw [e3, hm, ← Nat.add_assoc]; rw [← Option.some.inj hj]; exact h0
      · rw [hm] at hj; rw [e3, hm, ← Nat.add_assoc]; rw [← Option.some.inj hj]; exact h1
      · rw [hm] at hj; rw [e3, hm, ← Nat.add_assoc]; rw [← Option.some.inj hj]; exact h2
    obtain ⟨v', w', hr, ho', hu⟩ := run_app (P := Try.prog) (W.alloc (.cells #[] 48)) W.heap.size 22 22 48 i _ 3 40 Try.underlying22 hi hz hi1 hi2 rfl (by decide) _ 0 [] hown ad ws.length cap (ws.flatMap wrcells) (wrow_len ws) hcells (wrow_one ws) (by unfold maxLen; omega) (by omega) hb0.size
    have hbb : Below W.heap.size (W.alloc (.cells #[] 48)) w' := (Below.refl _ _).grown hu.1 hb0.size fun k hk => (World.ownsRow.lt hown k hk).1
    have hfin : RowK 48 3 W.heap.size w' v' ws.length (ws.flatMap wrcells) := by
      rw [Nat.zero_add, List.nil_append] at ho'
      exact ⟨ho', wrow_one ws⟩
    obtain ⟨va, vc, rfl, _, _⟩ := hfin.form
    have HF : Hid (WClnP W ws (.returned (.slice va ws.length vc)) w') := Lib.hid ⟨va, vc, rfl, hfin, hb0.trans hbb⟩
    have heq := fun w' => Lib.run_eql_slice_nil (P := Try.prog) w' 22 48 (some ad) ws.length cap 0 0 Try.underlying22
    clear hown hb0 ho' hu hbb hfin h hcells
    go_enter Try.func131, Try.ntmps131
    go_wp2_with (at_builtin; refine Lib.wpList_append_run _ rfl _ _ _ _ rfl _ _ rfl rfl _ _ hr ?_)
    go_ret
    exact HF.out

set_option maxHeartbeats 1000000 in
set_option maxRecDepth 100000 in
theorem cclone_any {W : World} (seq at_ : Int) {a : Option Addr} {len cap : Nat} {ws : List Wr} (h : WrsIs W a ws) (hl : ws.length = len) (hle : len ≤ 1000000) :
    Calls Try.prog 97 #[.agg #[.int .i64 seq, .int .i64 at_, .slice a len cap]] W fun e W' => ∃ va vc, e = .returned (.agg #[.int .i64 seq, .int .i64 at_, .slice va ws.length vc]) ∧ RowK 48 3 W.heap.size W' (.slice va ws.length vc) ws.length (ws.flatMap wrcells) ∧ Below W.heap.size W W' := by
  subst hl
  have HW := Lib.hid h
  clear h
  go_enter Try.func97, Try.ntmps97
  go_wp2_with fail
  obtain ⟨W1, hW1⟩ : ∃ W1, W1 = ((W.alloc (.cells #[.int .i64 seq, .int .i64 at_, .slice a ws.length cap] 45)).alloc (.cells #[.int .i64 0, .int .i64 0, .slice none 0 0] 45)) := ⟨_, rfl⟩
  rw [← hW1]
  have hb1 : Below W.heap.size W W1 := by rw [hW1]; exact ((Below.refl _ _).alloc (Nat.le_refl _) _).alloc (by simp) _
  have hx1 : Box W1 W.heap.size 45 #[.int .i64 seq, .int .i64 at_, .slice a ws.length cap] := by rw [hW1]; exact (Box.new W _ _).alloc _
  have hx2 : Box W1 (W.heap.size + 1) 45 #[.int .i64 0, .int .i64 0, .slice none 0 0] := by
    have := Box.new (W.alloc (.cells #[.int .i64 seq, .int .i64 at_, .slice a ws.length cap] 45)) 45 #[.int .i64 0, .int .i64 0, .slice none 0 0]
    rw [World.size_alloc] at this
    rw [hW1]; exact this
  refine (wclone_any (cap := cap) (HW.out.below hb1) rfl hle).mono ?_
  rintro e w2 ⟨va, vc, rfl, hrow, hb⟩
  have hy1 : Box w2 W.heap.size 45 #[.int .i64 seq, .int .i64 at_, .slice a ws.length cap] := (hb.block _ hx1.lt).trans hx1
  have hy2 : Box w2 (W.heap.size + 1) 45 #[.int .i64 0, .int .i64 0, .slice none 0 0] := (hb.block _ hx2.lt).trans hx2
  have HR := Lib.hid (And.intro hrow (And.intro (hb1.trans (hb.mono hb1.size)) (And.intro hx2.lt (And.intro hy1 hy2))))
  have c0 := hy1.cell 0
  have c1 := hy1.cell 1
  have c2 := hy1.cell 2
  have cf := hy1.free 2
  have r0 := hy2.cell 0
  have r1 := hy2.cell 1
  have r2 := hy2.cell 2
  have f0 := hy2.free 0
  have f1 := hy2.free 1
  have f2 := hy2.free 2
  simp only [List.getElem?_toArray, List.getElem?_cons_zero, List.getElem?_cons_succ] at c0 c1 c2 r0 r1 r2
  clear hb1 hx1 hx2 hrow hb hy1 hy2 hW1
  go_wp2_with fail
  obtain ⟨hrow, hbl, hlt, hy1, hy2⟩ := HR.out
  have hz : Box ((((w2.setCell ⟨W.heap.size, 2, none⟩ (.slice va ws.length vc)).setCell ⟨W.heap.size + 1, 0, none⟩ (.int .i64 seq)).setCell ⟨W.heap.size + 1, 1, none⟩ (.int .i64 at_)).setCell ⟨W.heap.size + 1, 2, none⟩ (.slice va ws.length vc)) (W.heap.size + 1) 45 #[.int .i64 seq, .int .i64 at_, .slice va ws.length vc] := (((hy2.setFar (p := ⟨W.heap.size, 2, none⟩) (by show W.heap.size + 1 ≠ W.heap.size; omega) _).setSame 0 _).setSame 1 _).setSame 2 _
  have k0 := hz.cell 0
  have k1 := hz.cell 1
  have k2 := hz.cell 2
  simp only [List.getElem?_toArray, List.getElem?_cons_zero, List.getElem?_cons_succ] at k0 k1 k2
  refine bodyPost_ret (v := .agg #[.int .i64 seq, .int .i64 at_, .slice va ws.length vc]) ?_ rfl ⟨va, vc, rfl, ?_, ?_⟩
  · simp [results, Try.f97, go_sem, k0, k1, k2]
  · refine hrow.keep fun q hq => ?_
    have h1 := (hrow.lt q hq).1
    refine ⟨?_, by omega⟩
    exact (Below.heap_setCell _ ⟨W.heap.size + 1, 2, none⟩ _ q (by show q ≠ W.heap.size + 1; omega)).trans ((Below.heap_setCell _ ⟨W.heap.size + 1, 1, none⟩ _ q (by show q ≠ W.heap.size + 1; omega)).trans ((Below.heap_setCell _ ⟨W.heap.size + 1, 0, none⟩ _ q (by show q ≠ W.heap.size + 1; omega)).trans (Below.heap_setCell _ ⟨W.heap.size, 2, none⟩ _ q (by show q ≠ W.heap.size; omega))))
  · exact (((hbl.setCell (p := ⟨W.heap.size, 2, none⟩) (Nat.le_refl _) _).setCell (p := ⟨W.heap.size + 1, 0, none⟩) (Nat.le_succ _) _).setCell (p := ⟨W.heap.size + 1, 1, none⟩) (Nat.le_succ _) _).setCell (p := ⟨W.heap.size + 1, 2, none⟩) (Nat.le_succ _) _

end Go.Proofs.Ytcebnoapgceodaa.sT
end

section
namespace Go.Proofs.Ytcebnoapgceodaa.sT
open Go.RowKit Go.Proofs.Ytcebnoapgceodaa.tC

set_option linter.unusedVariables false
set_option linter.unusedSimpArgs false

/-- another list of commits in the store's own cell: the tree stays -/
theorem tree_head {B : Nat → Prop} {W : World} {t : Nat} {ls : List (List KV)} {x0 x1 : Value} (h : @TreeAt (mkHd x0 x1) B W t ls) (y : Value) : @TreeAt (mkHd x0 y) B (W.setCell ⟨t, 1, none⟩ y) t ls := by
  obtain ⟨h0, hg, ht, rv, ss, h1, hb, hr, ho, hl, hd⟩ := h
  have hblk : ∀ q, q ≠ t → (W.setCell ⟨t, 1, none⟩ y).heap[q]? = W.heap[q]? := fun q hq => Below.heap_setCell W ⟨t, 1, none⟩ _ q hq
  refine ⟨h0, hg, ht, rv, ss, h1, ?_, hr.keep fun q hq => ⟨hblk q ?_, Nat.zero_le _⟩, ho, hl.keep fun s hs q hq hB _ => ⟨hblk q ?_, hB⟩, hd⟩
  · exact Box.setSame (show Box W t 105 #[x0, x1, rv, .int .i64 (total ls)] from hb) 1 y
  · obtain ⟨arr, hq2⟩ := rowk_box hr hq
    exact box_ne hq2 hb (by decide)
  · obtain ⟨⟨arr, hq2⟩, _⟩ := leaf_types hl s hs q hq
    exact box_ne hq2 hb (by decide)

theorem infoCm : (Try.prog.info? 45).map (fun i => (i.zero, i.size, i.bytes)) = some (some (.agg #[.int .i64 0, .int .i64 0, .slice none 0 0]), 3, 40) := by kernel_rfl

theorem cmrow_len : ∀ (vs : List Value) (cs : List CmM), vs.length = cs.length → (cmrow vs cs).length = cs.length * 3
  | [], [], _ => rfl
  | v :: r, c :: q, h => by
    have := cmrow_len r q (by simpa using h)
    simp [cmrow, this]; omega
  | _ :: _, [], h => by simp at h
  | [], _ :: _, h => by simp at h
theorem cmrow_app : ∀ (vs : List Value) (cs : List CmM) (v : Value) (c : CmM), vs.length = cs.length → cmrow (vs ++ [v]) (cs ++ [c]) = cmrow vs cs ++ [.int .i64 c.seq, .int .i64 c.at_, v]
  | [], [], v, c, _ => rfl
  | u :: r, d :: q, v, c, h => by
    have := cmrow_app r q v c (by simpa using h)
    simp [cmrow, this]
  | _ :: _, [], _, _, h => by simp at h
  | [], _ :: _, _, _, h => by simp at h
theorem CmsAt.len {B : Nat → Prop} {W : World} : ∀ {l : List Value} {cs : List CmM}, CmsAt B W l cs → l.length = cs.length
  | [], [], _ => rfl
  | _ :: _, _ :: _, ⟨_, h⟩ => by rw [List.length_cons, List.length_cons, CmsAt.len h]
  | _ :: _, [], h => h.elim
  | [], _ :: _, h => h.elim
theorem CmsAt.append {B : Nat → Prop} {W : World} {v : Value} {c : CmM} (h2 : WsAt B W v c.ws) : ∀ {l : List Value} {cs : List CmM}, CmsAt B W l cs → CmsAt B W (l ++ [v]) (cs ++ [c])
  | [], [], _ => ⟨h2, trivial⟩
  | _ :: _, _ :: _, ⟨h1, h⟩ => ⟨h1, CmsAt.append h2 h⟩
  | _ :: _, [], h => h.elim
  | [], _ :: _, h => h.elim

theorem CmsAt.keepB {B B' : Nat → Prop} {W W' : World} : ∀ {l : List Value} {cs : List CmM}, CmsAt B W l cs → (∀ q, B q → (∃ arr, Box W q 48 arr) → W'.heap[q]? = W.heap[q]? ∧ B' q) → CmsAt B' W' l cs
  | [], [], _, _ => trivial
  | v :: r, c :: q, ⟨h1, h2⟩, hk => ⟨⟨h1.1.keep fun b hb => ⟨(hk b (h1.2 b hb) (rowk_box h1.1 hb)).1, Nat.zero_le _⟩, fun b hb => (hk b (h1.2 b hb) (rowk_box h1.1 hb)).2⟩, CmsAt.keepB h2 hk⟩
  | _ :: _, [], h, _ => h.elim
  | [], _ :: _, h, _ => h.elim

/-- one commit more -/
def StM.push (M : StM) (c : CmM) : StM := { M with cms := M.cms ++ [c] }

theorem push_step {P : Nat → Prop} {W : World} {s : Nat} {M : StM} {cv : Value} {wvs : List Value} {ls : List (List KV)} {BT BC BM : Nat → Prop} (h : St P W s M cv wvs ls BT BC BM) {n0 : Nat} (hP : ∀ q, P q → q < n0) (hn0 : n0 ≤ W.heap.size)
    (c : CmM) {wa : Option Addr} {wc : Nat} (hwv : RowK 48 3 n0 W (.slice wa c.ws.length wc) c.ws.length (c.ws.flatMap wrcells)) {p : Nat} (hp : W.heap[p]? = some (.cells #[.int .i64 c.seq, .int .i64 c.at_, .slice wa c.ws.length wc] 45)) (hsz : M.low + M.cms.length + 1 ≤ 1099511627776) (hl : M.cms.length ≤ 1000000) (ty : TypeId) :
    ∃ a2 c2 W1, (Builtin.append_ #[27, 27] ty #[cv, .slice (some ⟨p, 0, none⟩) 1 1]).run Try.prog W = .ok (.slice a2 (M.cms.length + 1) c2) W1 ∧ (∃ x, W1.cell? ⟨s, 1, none⟩ = some x) ∧ W1.frozen? ⟨s, 1, none⟩ = false ∧ (∀ q, q < W.heap.size → ¬ P q → W1.heap[q]? = W.heap[q]?) ∧
      StoreAt (Nu P n0) (W1.setCell ⟨s, 1, none⟩ (.slice a2 (M.cms.length + 1) c2)) s (M.push c) ∧ Ext P W (W1.setCell ⟨s, 1, none⟩ (.slice a2 (M.cms.length + 1) c2)) := by
  obtain ⟨i, hi, hz, hi1, hi2⟩ := info_parts infoCm
  have hlen := h.ws.len
  obtain ⟨v', W1, hr, ho, hu⟩ := h.cm.app (P := Try.prog) 27 ty i _ 40 Try.underlying27 hi hz hi1 hi2 rfl (by decide) ⟨p, 0, none⟩ 1 1 [.int .i64 c.seq, .int .i64 c.at_, .slice wa c.ws.length wc] rfl (fun j u hj => World.news_of_block hp j u (by simpa using hj)) (fun u hu => by simp at hu; rcases hu with rfl | rfl | rfl <;> rfl) (by unfold maxLen; omega) (by omega) (Nat.zero_le _)
  have hm : RowO 45 3 0 W1 v' (M.cms.length + 1) (cmrow (wvs ++ [.slice wa c.ws.length wc]) (M.cms ++ [c])) := by
    rw [cmrow_app _ _ _ _ hlen]
    exact ho
  obtain ⟨a2, c2, rfl, _⟩ := hm.form
  have hz1 := hu.1.size
  have hcvB : ∀ q, cv.ownBlock = some q → BM q := h.cb
  have hsame : ∀ q, q < W.heap.size → cv.ownBlock ≠ some q → W1.heap[q]? = W.heap[q]? := fun q hq hne => hu.1.block q hq fun e => hne e.symm
  have hs1 : BT s := h.tree.1
  have hsB := h.bt s hs1
  have hBT1 : ∀ q, BT q → W1.heap[q]? = W.heap[q]? := fun q hq => hsame q (h.bt q hq).2 fun e => (h.bm q (hcvB q e)).2.2.1 hq
  have hT1 : @TreeAt (mkHd (.int .i64 M.low) cv) BT W1 s ls := TreeAt.keep (hd := mkHd (.int .i64 M.low) cv) h.tree fun q hq hlt => ⟨hBT1 q hq, hq⟩
  have hT2 := tree_head hT1 (.slice a2 (M.cms.length + 1) c2)
  obtain ⟨la, lc, hbx⟩ := TreeAt.box (hd := mkHd (.int .i64 M.low) cv) hT1
  have hset : ∀ q, q ≠ s → (W1.setCell ⟨s, 1, none⟩ (.slice a2 (M.cms.length + 1) c2)).heap[q]? = W1.heap[q]? := fun q hq => Below.heap_setCell W1 ⟨s, 1, none⟩ _ q hq
  have hszs : (W1.setCell ⟨s, 1, none⟩ (.slice a2 (M.cms.length + 1) c2)).heap.size = W1.heap.size := by simp
  have hE1 : ∀ q, q < W.heap.size → ¬ P q → W1.heap[q]? = W.heap[q]? := fun q hq hn => hsame q hq fun e => hn (h.bm q (hcvB q e)).1
  -- the new list's block, and the new writes' block
  have hnew : ∀ q, (Value.slice a2 (M.cms.length + 1) c2).ownBlock = some q → q < W1.heap.size ∧ (cv.ownBlock = some q ∨ W.heap.size ≤ q) := fun q hq => ⟨(hm.lt q hq).2, by
    rcases hu.2 with e | e
    · rw [e] at hq; exact .inl hq
    · exact .inr (e q hq)⟩
  have hwn : ∀ q, (Value.slice wa c.ws.length wc).ownBlock = some q → n0 ≤ q ∧ q < W.heap.size := fun q hq => hwv.lt q hq
  have hnP : ∀ q, n0 ≤ q → ¬ P q := fun q hq h2 => by have := hP q h2; omega
  have hfar : ∀ q, q < W.heap.size → ¬ BT q → cv.ownBlock ≠ some q → (W1.setCell ⟨s, 1, none⟩ (.slice a2 (M.cms.length + 1) c2)).heap[q]? = W.heap[q]? := fun q hq hn hne => (hset q fun e => hn (by rw [e]; exact hs1)).trans (hsame q hq hne)
  refine ⟨a2, c2, W1, hr, ⟨_, hbx.cell 1⟩, hbx.free 1, hE1, ⟨.slice a2 (M.cms.length + 1) c2, wvs ++ [.slice wa c.ws.length wc], ls, BT, BC, fun q => BM q ∨ (Value.slice wa c.ws.length wc).ownBlock = some q ∨ (Value.slice a2 (M.cms.length + 1) c2).ownBlock = some q, ?_⟩, ?_⟩
  · refine { tree := hT2, ch := ?_, ap := h.ap, cm := ?_, cb := fun q hq => .inr (.inr hq), ws := ?_, bt := ?_, bc := ?_, bm := ?_, sz := ?_ }
    · exact h.ch.keep fun q hq => ⟨hfar q (h.bc q hq).2.1 (h.bc q hq).2.2 fun e => (h.bm q (hcvB q e)).2.2.2 hq, hq⟩
    · show RowO _ 3 0 _ _ (M.cms ++ [c]).length (cmrow (wvs ++ [.slice wa c.ws.length wc]) (M.cms ++ [c]))
      rw [List.length_append, List.length_singleton]
      refine hm.keep fun q hq => ⟨hset q fun e => ?_, Nat.zero_le _⟩
      rcases (hnew q hq).2 with h1 | h1
      · exact (h.bm q (hcvB q h1)).2.2.1 (by rw [e]; exact hs1)
      · omega
    · refine CmsAt.append ⟨hwv.keep fun q hq => ⟨hfar q (hwn q hq).2 (fun h2 => hnP q (hwn q hq).1 (h.bt q h2).1) fun e => hnP q (hwn q hq).1 (h.bm q (hcvB q e)).1, Nat.zero_le _⟩, fun q hq => .inr (.inl hq)⟩ ?_
      refine h.ws.keepB fun q hq hbx2 => ⟨hfar q (h.bm q hq).2.1 (h.bm q hq).2.2.1 fun e => ?_, .inl hq⟩
      obtain ⟨arr, h1⟩ := hbx2
      obtain ⟨_, arr2, h2⟩ := h.cm.box e
      exact box_ne h1 h2 (by decide) rfl
    · intro q hq
      exact ⟨.inl (h.bt q hq).1, by rw [hszs]; have := (h.bt q hq).2; omega⟩
    · intro q hq
      obtain ⟨h1, h2, h3⟩ := h.bc q hq
      exact ⟨.inl h1, by rw [hszs]; omega, h3⟩
    · rintro q (hq | hq | hq)
      · obtain ⟨h1, h2, h3, h4⟩ := h.bm q hq
        exact ⟨.inl h1, by rw [hszs]; omega, h3, h4⟩
      · obtain ⟨h1, h2⟩ := hwn q hq
        exact ⟨.inr h1, by rw [hszs]; omega, fun h3 => hnP q h1 (h.bt q h3).1, fun h3 => hnP q h1 (h.bc q h3).1⟩
      · obtain ⟨h1, h2 | h2⟩ := hnew q hq
        · obtain ⟨k1, k2, k3, k4⟩ := h.bm q (hcvB q h2)
          exact ⟨.inl k1, by rw [hszs]; omega, k3, k4⟩
        · exact ⟨.inr (by omega), by rw [hszs]; omega, fun h3 => by have := (h.bt q h3).2; omega, fun h3 => by have := (h.bc q h3).2.1; omega⟩
    · show M.low + (M.cms ++ [c]).length ≤ _
      rw [List.length_append, List.length_singleton]
      omega
  · have hbel := Below.setCell (B := 0) (Below.refl 0 W1) (p := ⟨s, 1, none⟩) (Nat.zero_le _) (.slice a2 (M.cms.length + 1) c2)
    exact ⟨hbel.os.trans hu.1.os, hbel.tape.trans hu.1.tape, hbel.output.trans hu.1.output, by rw [hszs]; exact hz1, fun q hq hn => (hset q fun e => hn (by rw [e]; exact hsB.1)).trans (hE1 q hq hn)⟩

end Go.Proofs.Ytcebnoapgceodaa.sT
end

section
namespace Go.Proofs.Ytcebnoapgceodaa.sT
open Go.RowKit Go.Proofs.Ytcebnoapgceodaa.tC

set_option linter.unusedVariables false
set_option linter.unusedSimpArgs false

/-- an operation that is an append whose run is known, at a step of a region that draws -/
theorem step_app {ops : Array Oper} {o : Oper} {a : Act} {w : World} {K : Act → World → Prop} {E : Prop} (hgd : o.guard = none) (s x : Operand) (t : TypeId)
    (ho : o.op = .call { callee := .builtin .append, args := #[s, x], argTypes := #[t, t] }) (v u : Value) (hs : a.eval s = v) (hx : a.eval x = u) {v' : Value} {w' : World} {Q : Exit → Act → World → Prop}
    (hr : (Builtin.append_ #[t, t] o.type #[v, u]).run Try.prog w = .ok v' w') (h : K (a.put o.dst v') w') :
    if Region.wanted o (yielded ops a.tmps) = true then Oper.wp Try.prog o a w K Q else E := by
  have hw : Region.wanted o (yielded ops a.tmps) = true := by simp [Region.wanted, hgd]
  rw [if_pos hw]
  unfold Oper.wp execOp
  simp only [ho, resolve, invoke, builtin, Sem.run_bind, Sem.run_pure, Result.andThen_ok, List.map_toArray, List.map_cons, List.map_nil, hs, hx, hr]
  exact h

/-- behind a commit -/
def StM.commit (M : StM) (seq at_ : Int) (ws : List Wr) : StM := (M.push ⟨seq, at_, ws⟩).write seq ws
def CommitP (P : Nat → Prop) (W : World) (s : Nat) (M : StM) (seq at_ : Int) (ws : List Wr) (e : Ending) (W' : World) : Prop :=
  Ext P W W' ∧ ((M.fits seq at_ ws = false ∧ e = .returned (.int .i64 1) ∧ StoreAt (Nu P W.heap.size) W' s M) ∨ (M.fits seq at_ ws = true ∧ e = .returned (.int .i64 0) ∧ StoreAt (Nu P W.heap.size) W' s (M.commit seq at_ ws)))

theorem room_push {M : StM} {k : Nat} (h : Room M k) (c : CmM) : Room (M.push c) k := h

set_option maxHeartbeats 4000000 in
set_option maxRecDepth 100000 in
theorem commit_any {P : Nat → Prop} {W : World} {s : Nat} {M : StM} (h0 : StoreAt P W s M) (seq at_ : Int) {a : Option Addr} {len cap : Nat} {ws : List Wr} (hw : WrsIs W a ws) (hl : ws.length = len) (hle : len ≤ 40000) (ha : ws = [] ∨ ∀ b off, a = some ⟨b, off, none⟩ → ¬ P b) (hr : Room M len) (hcl : M.cms.length ≤ 1000000) :
    Calls Try.prog 49 #[.pointer (some ⟨s, 0, none⟩), .agg #[.int .i64 seq, .int .i64 at_, .slice a len cap]] W (CommitP P W s M seq at_ ws) := by
  subst hl
  obtain ⟨w0, hw0⟩ : ∃ w0, w0 = W.alloc (.cells #[.int .i64 seq, .int .i64 at_, .slice a ws.length cap] 45) := ⟨_, rfl⟩
  have hb0 : Below W.heap.size W w0 := by rw [hw0]; exact (Below.refl _ _).alloc (Nat.le_refl _) _
  have hx0 : Box w0 W.heap.size 45 #[.int .i64 seq, .int .i64 at_, .slice a ws.length cap] := by rw [hw0]; exact Box.new W _ _
  have HF : Hid (Calls Try.prog 96 #[.pointer (some ⟨s, 0, none⟩), .agg #[.int .i64 seq, .int .i64 at_, .slice a ws.length cap]] w0 fun e w' => e = .returned (.bool (M.fits seq at_ ws)) ∧ Below w0.heap.size w0 w') := Lib.hid (fits_any (cap := cap) (h0.below hb0) seq at_ (hw.below hb0) rfl (by omega))
  have HNO : Hid (M.fits seq at_ ws = false → ∀ w', Below w0.heap.size w0 w' → CommitP P W s M seq at_ ws (.returned (.int .i64 1)) w') := Lib.hid fun hf w' hb => by
    have hb2 : Below W.heap.size W w' := hb0.trans (hb.mono hb0.size)
    exact ⟨Ext.below hb2, .inl ⟨hf, rfl, (h0.below hb2).weaken fun q hq => .inl hq⟩⟩
  obtain ⟨cv, wvs, ls, BT, BC, BM, hS0⟩ := h0
  have hS : St (fun q => P q ∧ q < W.heap.size) W s M cv wvs ls BT BC BM := hS0.keep (Nat.le_refl _) fun q hq hlt _ => ⟨rfl, hq, hlt⟩
  have HCL : Hid (M.fits seq at_ ws = true → ∀ w', Below w0.heap.size w0 w' → w'.cell? ⟨s, 1, none⟩ = some cv ∧ Box w' W.heap.size 45 #[.int .i64 seq, .int .i64 at_, .slice a ws.length cap] ∧ Hid (Calls Try.prog 97 #[.agg #[.int .i64 seq, .int .i64 at_, .slice a ws.length cap]] w' fun e w2 => ∃ va vc, e = .returned (.agg #[.int .i64 seq, .int .i64 at_, .slice va ws.length vc]) ∧ w2.cell? ⟨s, 1, none⟩ = some cv ∧ (s < w2.heap.size) ∧
      Hid (∃ a2 c2 W1, (Builtin.append_ #[27, 27] 27 #[cv, .slice (some ⟨w2.heap.size, 0, none⟩) 1 1]).run Try.prog (w2.alloc (.cells #[.int .i64 seq, .int .i64 at_, .slice va ws.length vc] 45)) = .ok (.slice a2 (M.cms.length + 1) c2) W1 ∧ (∃ x, W1.cell? ⟨s, 1, none⟩ = some x) ∧ W1.frozen? ⟨s, 1, none⟩ = false ∧
        (∃ W2, W2 = W1.setCell ⟨s, 1, none⟩ (.slice a2 (M.cms.length + 1) c2) ∧ Box W2 W.heap.size 45 #[.int .i64 seq, .int .i64 at_, .slice a ws.length cap] ∧ Hid (Calls Try.prog 75 #[.pointer (some ⟨s, 0, none⟩), .int .i64 seq, .slice a ws.length cap] W2 fun e W3 => e = .returned (.tuple #[]) ∧ Hid (CommitP P W s M seq at_ ws (.returned (.int .i64 0)) W3)))))) := Lib.hid fun hf w' hb => by
    have hb2 : Below W.heap.size W w' := hb0.trans (hb.mono hb0.size)
    have hsW := (hS.bt s hS.tree.1).2
    refine ⟨((hS.below hb2).reads).2.2, (hb.block _ hx0.lt).trans hx0, Lib.hid ?_⟩
    refine (cclone_any (cap := cap) seq at_ (hw.below hb2) rfl (by omega)).mono ?_
    rintro e w2 ⟨va, vc, rfl, hrow, hb3⟩
    have hb4 : Below W.heap.size W w2 := hb2.trans (hb3.mono hb2.size)
    refine ⟨va, vc, rfl, ((hS.below hb4).reads).2.2, by have := hb4.size; omega, Lib.hid ?_⟩
    have hb5 : Below w2.heap.size w2 (w2.alloc (.cells #[.int .i64 seq, .int .i64 at_, .slice va ws.length vc] 45)) := (Below.refl _ _).alloc (Nat.le_refl _) _
    have hb6 : Below W.heap.size W (w2.alloc (.cells #[.int .i64 seq, .int .i64 at_, .slice va ws.length vc] 45)) := hb4.trans (hb5.mono hb4.size)
    have hsz : M.low + M.cms.length + 1 ≤ 1099511627776 := by
      have h1 := hf
      unfold StM.fits StM.last at h1
      simp only [Bool.and_eq_true, decide_eq_true_eq] at h1
      omega
    have hrow2 : RowK 48 3 W.heap.size (w2.alloc (.cells #[.int .i64 seq, .int .i64 at_, .slice va ws.length vc] 45)) (.slice va ws.length vc) ws.length (ws.flatMap wrcells) := hrow.keep fun q hq => ⟨hb5.block q (hrow.lt q hq).2, Nat.le_trans hb2.size (hrow.lt q hq).1⟩
    obtain ⟨a2, c2, W1, hrun, hx, hfz, hk1, hst, hE⟩ := push_step (hS.below hb6) (n0 := W.heap.size) (fun q hq => hq.2) hb6.size ⟨seq, at_, ws⟩ hrow2 (heap_alloc_new w2 _) hsz hcl 27
    have hEW : Ext (fun q => P q ∧ q < W.heap.size) W (W1.setCell ⟨s, 1, none⟩ (.slice a2 (M.cms.length + 1) c2)) := (Ext.below hb6).trans (hE.mono fun q hq => .inl hq)
    have hzE := hEW.2.2.2.1
    refine ⟨a2, c2, W1, hrun, hx, hfz, _, rfl, ?_, Lib.hid ?_⟩
    · have h1 : W.heap.size < w2.heap.size := by have := hb.size; have := hb3.size; have := hx0.lt; omega
      exact (hE.2.2.2.2 _ (by simp; omega) fun h9 => by have := h9.2; omega).trans ((hb5.block _ h1).trans ((hb3.block _ (by have := hb.size; have := hx0.lt; omega)).trans ((hb.block _ hx0.lt).trans hx0)))
    · refine (write_any hst seq (a := a) (cap := cap) (wrs_ext hw hEW (ha.imp id fun hq b off e h9 => hq b off e h9.1)) rfl (by omega) ?_ (room_push hr _)).mono ?_
      · rcases hw with hw | ⟨b2, off2, e2, hlt, _⟩
        · exact .inl hw
        · refine ha.imp id fun hq b off e h9 => ?_
          rcases h9 with h9 | h9
          · exact hq b off e h9.1
          · rw [e] at e2
            injection e2 with e2
            injection e2 with e2
            omega
      · rintro e W3 ⟨rfl, hs3, hE3⟩
        refine ⟨rfl, Lib.hid ⟨?_, .inr ⟨hf, rfl, hs3.weaken fun q hq => ?_⟩⟩⟩
        · refine (hEW.mono fun q hq => hq.1).trans (hE3.mono fun q hq => ?_)
          rcases hq with hq | hq
          · exact .inl hq.1
          · exact .inr hq
        · rcases hq with (hq | hq) | hq
          · exact .inl hq.1
          · exact .inr hq
          · exact .inr (Nat.le_trans hzE hq)
  clear hS hS0 hw ha hr
  subst hw0
  obtain ⟨f, hf⟩ : ∃ f, f = M.fits seq at_ ws := ⟨_, rfl⟩
  rw [← hf] at HF HNO HCL
  clear hf
  obtain ⟨Q, hQ⟩ : ∃ Q, Q = CommitP P W s M seq at_ ws := ⟨_, rfl⟩
  rw [← hQ] at HNO HCL ⊢
  clear hQ hb0 hx0
  cases f
  · have HX := Lib.hid (HNO.out rfl)
    clear HNO HCL
    go_enter Try.func49, Try.ntmps49
    go_wp2_with fail
    refine HF.out.mono ?_
    rintro e w1 ⟨rfl, hb⟩
    have HB := Lib.hid hb
    clear hb HF
    go_wp2
    exact HX.out _ HB.out
  · have HX := Lib.hid (HCL.out rfl)
    clear HNO HCL
    go_enter Try.func49, Try.ntmps49
    go_wp2_with fail
    refine HF.out.mono ?_
    rintro e w1 ⟨rfl, hb⟩
    obtain ⟨k1, hbx, hC⟩ := HX.out w1.drew hb.drew
    have k1' : w1.cell? ⟨s, 1, none⟩ = some cv := k1
    have c0 : w1.cell? ⟨W.heap.size, 0, none⟩ = some (.int .i64 seq) := hbx.cell 0
    have c1 : w1.cell? ⟨W.heap.size, 1, none⟩ = some (.int .i64 at_) := hbx.cell 1
    have c2 : w1.cell? ⟨W.heap.size, 2, none⟩ = some (.slice a ws.length cap) := hbx.cell 2
    clear hb HF HX hbx k1
    go_wp2_with fail
    go_region_law (first
      | (refine step_app rfl (.tmp 17) (.tmp 20) 27 rfl cv (.slice (some ⟨w2.heap.size, 0, none⟩) 1 1) (by simp [Act.eval, Act.put]) (by simp [Act.eval, Act.put]) hrun ?_)
      | (go_simp; go_at_call 97; refine hC.out.mono ?_; rintro e w2 ⟨va, vc, rfl, k2, hsz, hN⟩; obtain ⟨a2, c2', W1, hrun, ⟨x, hx⟩, hfz, W2, hW2, hbx2, hWr⟩ := hN.out))
    all_goals
      have e0 : W2.cell? ⟨W.heap.size, 0, none⟩ = some (.int .i64 seq) := hbx2.cell 0
      have e2 : W2.cell? ⟨W.heap.size, 2, none⟩ = some (.slice a ws.length cap) := hbx2.cell 2
      rw [← hW2]
      clear hW2 hrun hx hfz hbx2 hN hC k2 k1' c0 c1 c2
      go_wp2_with fail
      refine hWr.out.mono ?_
      rintro e w5 ⟨rfl, hP⟩
      go_wp2
      exact hP.out

end Go.Proofs.Ytcebnoapgceodaa.sT
end

section
namespace Go.Proofs.Ytcebnoapgceodaa.sT
open Go.RowKit Go.Proofs.Ytcebnoapgceodaa.tC Go.Proofs.Ytcebnoapgceodaa.rgR

set_option linter.unusedVariables false
set_option linter.unusedSimpArgs false
attribute [local go_sem] Oper.semAt_some

theorem fold2 (p1 p2 : Tmp) (t : Array Value) (u v : Value) : ((#[p1, p2] : Array Tmp).zip #[u, v]).foldl (fun t x => match x with | (p, v) => t.setIfInBounds p v) t = (t.setIfInBounds p1 u).setIfInBounds p2 v := by simp
theorem from_all (m : List KV) : fromK m ⟨#[]⟩ = m := by
  unfold fromK
  refine List.filter_eq_self.2 fun p _ => ?_
  have : ¬ Lt p.1 ⟨#[]⟩ := by unfold Lt; exact List.not_lt_nil _
  simp [this]

def lenV : Value → Nat
  | .slice _ n _ => n
  | _ => 0
def sumV (l : List KV) : Nat := (l.map fun p => lenV p.2).sum
theorem sumV_snoc (l : List KV) (p : KV) : sumV (l ++ [p]) = sumV l + lenV p.2 := by simp [sumV]
theorem sumV_le (b : Nat) : ∀ l : List KV, (∀ p ∈ l, lenV p.2 ≤ b) → sumV l ≤ l.length * b
  | [], _ => by simp [sumV]
  | p :: r, h => by
    have h1 := sumV_le b r fun q hq => h q (List.mem_cons_of_mem _ hq)
    have h2 := h p List.mem_cons_self
    have e : sumV (p :: r) = lenV p.2 + sumV r := by simp [sumV]
    rw [e, List.length_cons, Nat.add_mul]
    omega
/-- how many versions are kept -/
def StM.versions (M : StM) : Nat := (M.keys.map fun k => k.2.length).sum
theorem Chs.sum {B : Nat → Prop} {W : World} : ∀ {l : List KV} {ks : List (ByteArray × List Ver)}, Chs B W l ks → sumV l = (ks.map fun k => k.2.length).sum
  | [], [], _ => rfl
  | p :: r, k :: q, ⟨_, h2, h3⟩ => by
    obtain ⟨a, c, e, _⟩ := h2.1.form
    have e1 : sumV (p :: r) = lenV p.2 + sumV r := by simp [sumV]
    rw [e1, Chs.sum h3, List.map_cons, List.sum_cons, e]
    rfl
  | _ :: _, [], h => h.elim
  | [], _ :: _, h => h.elim
theorem Chs.vals {B : Nat → Prop} {W : World} : ∀ {l : List KV} {ks : List (ByteArray × List Ver)}, Chs B W l ks → (∀ k ∈ ks, k.2.length ≤ 1000000) → ∀ p ∈ l, IsV p.2 ∧ lenV p.2 ≤ 1000000
  | [], [], _, _, p, hp => by simp at hp
  | p :: r, k :: q, ⟨_, h2, h3⟩, hk, p', hp => by
    rcases List.mem_cons.1 hp with e | hp
    · obtain ⟨a, c, e2, _⟩ := h2.1.form
      rw [e, e2]
      exact ⟨⟨a, _, c, rfl⟩, hk k List.mem_cons_self⟩
    · exact Chs.vals h3 (fun k' hk' => hk k' (List.mem_cons_of_mem _ hk')) p' hp
  | _ :: _, [], h, _, _, _ => h.elim
  | [], _ :: _, h, _, _, _ => h.elim

set_option maxHeartbeats 2000000 in
set_option maxRecDepth 100000 in
theorem versions_any {P : Nat → Prop} {W : World} {s : Nat} {M : StM} (h : StoreAt P W s M) (hg : GoodM M) :
    Calls Try.prog 51 #[.pointer (some ⟨s, 0, none⟩)] W fun e w' => e = .returned (.int .i64 M.versions) ∧ Below W.heap.size W w' := by
  obtain ⟨cv, wvs, ls, BT, BC, BM, hS⟩ := h
  have HS := Lib.hid hS
  have HC := Lib.hid (chains_any s)
  have hsum := hS.ch.sum
  have hvals := hS.ch.vals fun k hk => (hg k hk).2
  have hN : ls.flatten.length ≤ 50000 := hS.tree.2.2.1
  have HM : Hid (sumV ls.flatten = M.versions) := Lib.hid hsum
  have HV := Lib.hid hvals
  have HN := Lib.hid hN
  clear hsum hvals hN hS hg
  refine (callsIn_wide (n := 3)).1 (callsIn_of_wp_marks Try.func51 rfl trivial ?_)
  simp only [Try.ntmps51, List.size_toArray, List.length_cons, List.length_nil, Nat.reduceAdd, Nat.reduceSub, Array.replicate_succ, Array.replicate_zero, List.push_toArray, List.append_toArray, List.nil_append, List.cons_append]
  refine (wpIn_wide (n := 3)).2 ?_
  go_wp2_with fail
  refine (HC.out _).mono ?_
  rintro e w2 ⟨rfl, rfl⟩
  go_wp2_with fail
  obtain ⟨c, hc⟩ : ∃ c, c = W.heap.size := ⟨_, rfl⟩
  obtain ⟨WB, hWB⟩ : ∃ WB, WB = W.alloc (.cells #[.int .i64 0] 3) := ⟨_, rfl⟩
  rw [← hWB]
  refine (from_any _ ⟨#[]⟩ _).mono ?_
  rintro e W6 ⟨rfl, hw6⟩
  have hzB : WB.heap.size = c + 1 := by rw [hWB, World.size_alloc, hc]
  rw [hzB, ← hc]
  have HALL : Hid (Below c W W6 ∧ Boxed W6 c 3 (.int .i64 ((0 : Nat) : Int)) ∧ Boxed W6 (c + 1) 110 (.pointer (some ⟨s, 2, none⟩)) ∧ Boxed W6 (c + 1 + 1) 9 (.string ⟨#[]⟩) ∧ W6.heap.size = c + 3) := Lib.hid (by
    have h1 := Boxed.new W 3 (.int .i64 0)
    rw [← hc, ← hWB] at h1
    have h2 := Boxed.new WB 110 (.pointer (some ⟨s, 2, none⟩))
    have h3 := Boxed.new (WB.alloc (.cells #[.pointer (some ⟨s, 2, none⟩)] 110)) 9 (.string ⟨#[]⟩)
    simp only [World.size_alloc, hzB] at h2 h3
    have hb : Below c W WB := by rw [hWB]; exact (Below.refl _ _).alloc (by rw [← hc]; exact Nat.le_refl _) _
    rw [hw6]
    exact ⟨(hb.alloc (by omega) _).alloc (by simp; omega) _, (h1.alloc _).alloc _, h2.alloc _, h3, by simp [hzB]⟩)
  have HCC := Lib.hid hc
  clear hw6 hzB hWB hc
  go_wp2_with fail
  obtain ⟨hb6, bN, bT, bK, hsz⟩ := HALL.out
  have hcc := HCC.out
  have hS6 := HS.out.below (by rw [← hcc]; exact hb6)
  have hst := seqR_of (from_stops (hd := mkHd (.int .i64 M.low) cv) 2 (c + 1) (c + 1 + 1) c BT s ls ⟨#[]⟩ W6 (fun p => IsV p.2 ∧ lenV p.2 ≤ 1000000) (fun x hx => by rw [hcc]; exact (HS.out.bt x hx).2) (by omega) hS6.tree (fun p hp => (HV.out p hp).1) HV.out bT.cell bK.cell bT.lt bK.lt)
  rw [from_all] at hst
  have HST := Lib.hid hst
  have HBN := Lib.hid bN
  have HSZ := Lib.hid hsz
  have HB6 := Lib.hid hb6
  have hcW : c < W6.heap.size := by omega
  clear hst hS6 hb6 bN bT bK hsz HALL hcc
  refine (wpIn_wide (n := 3)).1 ?_
  refine' wpIn_rangeR rfl (by omega) (gf := 134) (lb := #[.pointer (some ⟨c + 1, 0, none⟩), .pointer (some ⟨c + 1 + 1, 0, none⟩)]) rfl trivial (enters_of Try.func134 (by kernel_rfl) rfl)
    HST.out (fun h k => h.trans k) (KpB.turn (by omega)) (Below.refl _ _) (fun _ => rfl)
    (fun pre W' => Boxed W' c 3 (.int .i64 (sumV (pre.map Subtype.val) : Nat)) ∧ Below c W6 W')
    (fun _ _ _ => False)
    (OwnFrom.and (fun pre X Y row hs hg hr => hs.kept hg (fun e => by have := (hr c e.symm).1; omega)) (ownFrom_below (by omega) (by omega)))
    (fun _ _ _ _ _ h _ _ => h) ⟨HBN.out, Below.refl _ _⟩ _ ?assign ?body ?done ?stop
  case assign =>
    intro l x W K hK
    rw [fold2]
    simp only [List.setIfInBounds_toArray, List.set_cons_succ, List.set_cons_zero]
    repeat gi_step
    exact hK
  case body =>
    rintro l pre x W' ⟨bn, hB⟩ hlen hbig
    obtain ⟨za, zn, zc, hz⟩ : ∃ a n c, x.1.2 = .slice a n c := x.2.1
    have hzn : zn ≤ 1000000 := by have := x.2.2; rw [hz] at this; exact this
    have hs1 : sumV ((pre ++ [x]).map Subtype.val) = sumV (pre.map Subtype.val) + zn := by
      rw [List.map_append, List.map_singleton, sumV_snoc, hz]
      rfl
    have hs2 : sumV (pre.map Subtype.val) ≤ 50000 * 1000000 := by
      have h1 := sumV_le 1000000 (pre.map Subtype.val) (fun p hp => by obtain ⟨q, hq, rfl⟩ := List.mem_map.1 hp; exact q.2.2)
      rw [List.length_map] at h1
      have h2 := HN.out
      exact Nat.le_trans h1 (Nat.mul_le_mul_right _ (by omega))
    obtain ⟨S, hS⟩ : ∃ S, S = sumV (pre.map Subtype.val) := ⟨_, rfl⟩
    rw [← hS] at bn hs1 hs2
    have hcn := bn.cell
    have hfn := bn.frozen
    have hw : IntKind.i64.wrap ((S : Int) + (zn : Int)) = (S : Int) + (zn : Int) := by rw [IntKind.wrap_i64]; omega
    simp only [hz]
    have HF : Hid (KeepsFrom W6.heap.size W' (W'.setCell ⟨c, 0, none⟩ (.int .i64 ((S : Int) + (zn : Int)))) ∧ KpB BT c W' (W'.setCell ⟨c, 0, none⟩ (.int .i64 ((S : Int) + (zn : Int)))) ∧ Boxed (W'.setCell ⟨c, 0, none⟩ (.int .i64 ((S : Int) + (zn : Int)))) c 3 (.int .i64 (sumV ((pre ++ [x]).map Subtype.val) : Nat)) ∧ Below c W6 (W'.setCell ⟨c, 0, none⟩ (.int .i64 ((S : Int) + (zn : Int))))) := Lib.hid (by
      refine ⟨(KeepsOthers.setCell _ _ _).from _, KpB.below ((Below.refl c W').setCell (p := ⟨c, 0, none⟩) (Nat.le_refl _) _) (Nat.le_refl _), ?_, hB.setCell (p := ⟨c, 0, none⟩) (Nat.le_refl _) _⟩
      rw [hs1]
      exact bn.set _)
    clear hz bn hB hs1 hS hlen hbig hs2 hzn
    gi_wp2
    exact ⟨HF.out, SameIn.zero _ _ _⟩
  case done =>
    rintro D ys W' hD e ⟨bn, hB⟩ hK
    rw [e, HM.out] at bn
    have hcn := bn.cell
    have HF : Hid (Below W.heap.size W (W'.putObj D (.deferred none))) := Lib.hid (by
      have h1 := HB6.out.trans hB
      rw [HCC.out] at h1
      exact h1.trans (belowK_b (w := W) (Nat.le_refl _) _ D _ _ (by have := HSZ.out; have := HCC.out; omega) hK rfl rfl))
    clear e bn hB
    go_wp2
    refine ⟨by simp, .inl ⟨_, _, rfl, run_takeDeferred hK, ?_⟩⟩
    refine ⟨.int .i64 M.versions, ?_, rfl, HF.out⟩
    simp [results, Try.f51, go_sem]
  case stop =>
    rintro D co pre W' hD hsp h hK
    exact h.elim

end Go.Proofs.Ytcebnoapgceodaa.sT
end

section
namespace Go.Proofs.Ytcebnoapgceodaa.sT
open Go.RowKit Go.Proofs.Ytcebnoapgceodaa.tC

set_option linter.unusedVariables false
set_option linter.unusedSimpArgs false

/-- the keys without one -/
def dropM (ks : List (ByteArray × List Ver)) (key : ByteArray) : List (ByteArray × List Ver) := ks.filter fun p => decide (p.1 ≠ key)

theorem put_fresh {P : Nat → Prop} {W : World} {s : Nat} {M : StM} {cv : Value} {wvs : List Value} {ls : List (List KV)} {BT BC BM : Nat → Prop} (h : St P W s M cv wvs ls BT BC BM) {n0 : Nat} (hP : ∀ q, P q → q < n0) (hn0 : n0 ≤ W.heap.size)
    (key : ByteArray) (vs : List Ver) (h50 : total ls < 50000) {a : Option Addr} {c : Nat} (hrow : RowK 187 3 n0 W (.slice a vs.length c) vs.length (vrow vs)) :
    Calls Try.prog 120 #[.pointer (some ⟨s, 2, none⟩), .string key, .slice a vs.length c] W fun e W2 => (∃ b, e = .returned (.bool b)) ∧ StoreAt (Nu P n0) W2 s { M with keys := putM M.keys key vs } ∧ Ext P W W2 := by
  refine (put_any (hd := mkHd (.int .i64 M.low) cv) h.tree h50 key (a, vs.length, c)).mono ?_
  rintro e W2 ⟨rfl, hE2, ls', hT2, hfl⟩
  have hz2 : W.heap.size ≤ W2.heap.size := hE2.2.2.2.1
  have hk2 : ∀ q, q < W.heap.size → ¬ BT q → W2.heap[q]? = W.heap[q]? := fun q hq hn => hE2.2.2.2.2 q hq hn
  have hnew : ∀ q, (Value.slice a vs.length c).ownBlock = some q → n0 ≤ q ∧ q < W.heap.size := fun q hq => hrow.lt q hq
  have hnP : ∀ q, n0 ≤ q → ¬ P q := fun q hq h2 => by have := hP q h2; omega
  have hBC : ∀ q, BC q → W2.heap[q]? = W.heap[q]? := fun q hq => hk2 q (h.bc q hq).2.1 (h.bc q hq).2.2
  have hBM : ∀ q, BM q → W2.heap[q]? = W.heap[q]? := fun q hq => hk2 q (h.bm q hq).2.1 (h.bm q hq).2.2.1
  have hNB : ∀ q, (Value.slice a vs.length c).ownBlock = some q → ¬ BT q ∧ ¬ BC q ∧ ¬ BM q := fun q hq => ⟨fun h2 => hnP q (hnew q hq).1 (h.bt q h2).1, fun h2 => hnP q (hnew q hq).1 (h.bc q h2).1, fun h2 => hnP q (hnew q hq).1 (h.bm q h2).1⟩
  refine ⟨⟨_, rfl⟩, ⟨cv, wvs, ls', fun q => (BT q ∨ W.heap.size ≤ q) ∧ q < W2.heap.size, fun q => BC q ∨ (Value.slice a vs.length c).ownBlock = some q, BM, ?_⟩, ?_⟩
  · refine { tree := ?_, ch := ?_, ap := ?_, cm := ?_, cb := h.cb, ws := ?_, bt := ?_, bc := ?_, bm := ?_, sz := h.sz }
    · exact TreeAt.keep (hd := mkHd (.int .i64 M.low) cv) hT2 fun q hq hlt => ⟨rfl, hq, hlt⟩
    · rw [hfl]
      unfold putK putM
      refine Chs.append ?_ ⟨rfl, ⟨?_, fun q hq => .inr hq⟩, ?_⟩
      · exact (h.ch.filter fun k => decide (Lt k key)).keep fun q hB => ⟨hBC q hB, .inl hB⟩
      · exact hrow.keep fun q hq => ⟨hk2 q (hnew q hq).2 (hNB q hq).1, Nat.zero_le _⟩
      · exact (h.ch.filter fun k => decide (Lt key k)).keep fun q hB => ⟨hBC q hB, .inl hB⟩
    · rw [hfl]
      unfold putK
      rw [List.map_append, List.map_cons, List.pairwise_append]
      have hmem : ∀ y, ∀ f : KV → Bool, y ∈ (ls.flatten.filter f).map Prod.snd → ∃ p' ∈ ls.flatten, f p' = true ∧ p'.2 = y := fun y f hy => by
        obtain ⟨p', hp', rfl⟩ := List.mem_map.1 hy
        exact ⟨p', (List.mem_filter.1 hp').1, (List.mem_filter.1 hp').2, rfl⟩
      have hapn : ∀ p' ∈ ls.flatten, Ap (.slice a vs.length c) p'.2 := fun p' hp' q hq hq' => (hNB q hq).2.1 (h.ch.own p' hp' q hq')
      refine ⟨h.ap.sublist (List.filter_sublist.map _), List.pairwise_cons.2 ⟨fun y hy => ?_, h.ap.sublist (List.filter_sublist.map _)⟩, fun y hy y' hy' => ?_⟩
      · obtain ⟨p', hp', hf, rfl⟩ := hmem y _ hy
        exact hapn p' hp'
      · obtain ⟨p', hp', hf, rfl⟩ := hmem y _ hy
        have hlt : Lt p'.1 key := by simpa using hf
        rcases List.mem_cons.1 hy' with rfl | hy'
        · exact (hapn p' hp').symm
        · obtain ⟨p2, hp2, hf2, rfl⟩ := hmem y' _ hy'
          have hlt2 : Lt key p2.1 := by simpa using hf2
          exact ap_of h.ap p' hp' p2 hp2 (lt_ne (hlt.trans hlt2))
    · exact h.cm.keep fun q hq => ⟨hBM q (h.cb q hq), Nat.zero_le _⟩
    · exact h.ws.keep fun q hq => ⟨hBM q hq, hq⟩
    · rintro q ⟨hq | hq, hlt⟩
      · exact ⟨.inl (h.bt q hq).1, hlt⟩
      · exact ⟨.inr (by omega), hlt⟩
    · rintro q (hq | hq)
      · refine ⟨.inl (h.bc q hq).1, by have := (h.bc q hq).2.1; omega, ?_⟩
        rintro ⟨h3 | h3, _⟩
        · exact (h.bc q hq).2.2 h3
        · have := (h.bc q hq).2.1; omega
      · refine ⟨.inr (hnew q hq).1, by have := (hnew q hq).2; omega, ?_⟩
        rintro ⟨h3 | h3, _⟩
        · exact (hNB q hq).1 h3
        · have := (hnew q hq).2; omega
    · intro q hq
      obtain ⟨h1, h2, h3, h4⟩ := h.bm q hq
      refine ⟨.inl h1, by omega, ?_, ?_⟩
      · rintro ⟨h5 | h5, _⟩
        · exact h3 h5
        · omega
      · rintro (h5 | h5)
        · exact h4 h5
        · exact (hNB q h5).2.2 hq
  · exact ⟨hE2.1, hE2.2.1, hE2.2.2.1, hz2, fun q hq hn => hk2 q hq fun hB => hn (h.bt q hB).1⟩

theorem drop_step {P : Nat → Prop} {W : World} {s : Nat} {M : StM} (h0 : StoreAt P W s M) (key : ByteArray) :
    Calls Try.prog 133 #[.pointer (some ⟨s, 2, none⟩), .string key] W fun e W2 => (∃ b, e = .returned (.bool b)) ∧ StoreAt (Nu P W.heap.size) W2 s { M with keys := dropM M.keys key } ∧ Ext P W W2 := by
  obtain ⟨cv, wvs, ls, BT, BC, BM, h⟩ := h0
  refine (drop_any (hd := mkHd (.int .i64 M.low) cv) h.tree key).mono ?_
  rintro e W2 ⟨rfl, hE2, ls', hT2, hfl⟩
  have hz2 : W.heap.size ≤ W2.heap.size := hE2.2.2.2.1
  have hk2 : ∀ q, q < W.heap.size → ¬ BT q → W2.heap[q]? = W.heap[q]? := fun q hq hn => hE2.2.2.2.2 q hq hn
  have hBC : ∀ q, BC q → W2.heap[q]? = W.heap[q]? := fun q hq => hk2 q (h.bc q hq).2.1 (h.bc q hq).2.2
  have hBM : ∀ q, BM q → W2.heap[q]? = W.heap[q]? := fun q hq => hk2 q (h.bm q hq).2.1 (h.bm q hq).2.2.1
  refine ⟨⟨_, rfl⟩, ⟨cv, wvs, ls', fun q => (BT q ∨ W.heap.size ≤ q) ∧ q < W2.heap.size, BC, BM, ?_⟩, ?_⟩
  · refine { tree := ?_, ch := ?_, ap := ?_, cm := ?_, cb := h.cb, ws := ?_, bt := ?_, bc := ?_, bm := ?_, sz := h.sz }
    · exact TreeAt.keep (hd := mkHd (.int .i64 M.low) cv) hT2 fun q hq hlt => ⟨rfl, hq, hlt⟩
    · rw [hfl]
      unfold dropK dropM
      exact (h.ch.filter fun k => decide (k ≠ key)).keep fun q hB => ⟨hBC q hB, hB⟩
    · rw [hfl]
      unfold dropK
      exact h.ap.sublist (List.filter_sublist.map _)
    · exact h.cm.keep fun q hq => ⟨hBM q (h.cb q hq), Nat.zero_le _⟩
    · exact h.ws.keep fun q hq => ⟨hBM q hq, hq⟩
    · rintro q ⟨hq | hq, hlt⟩
      · exact ⟨.inl (h.bt q hq).1, hlt⟩
      · exact ⟨.inr (by omega), hlt⟩
    · intro q hq
      refine ⟨.inl (h.bc q hq).1, by have := (h.bc q hq).2.1; omega, ?_⟩
      rintro ⟨h3 | h3, _⟩
      · exact (h.bc q hq).2.2 h3
      · have := (h.bc q hq).2.1; omega
    · intro q hq
      obtain ⟨h1, h2, h3, h4⟩ := h.bm q hq
      refine ⟨.inl h1, by omega, ?_, h4⟩
      rintro ⟨h5 | h5, _⟩
      · exact h3 h5
      · omega
  · exact ⟨hE2.1, hE2.2.1, hE2.2.2.1, hz2, fun q hq hn => hk2 q hq fun hB => hn (h.bt q hB).1⟩

/-- what is let go of one key -/
def StM.cut1 (M : StM) (seq : Int) (key : ByteArray) : StM := { M with keys := if cutV (M.chain key) seq = [] then dropM M.keys key else putM M.keys key (cutV (M.chain key) seq) }

theorem GoodM.chain {M : StM} (hg : GoodM M) (key : ByteArray) : Rise (M.chain key) ∧ (M.chain key).length ≤ 1000000 := by
  unfold StM.chain
  cases hl : lookK M.keys key with
  | none => exact ⟨fun i j _ hj => absurd hj (by simp), by simp⟩
  | some vs =>
    obtain ⟨k, hk, e⟩ := look_mem hl
    rw [Option.getD_some, ← e]
    exact hg k hk

theorem cut_chain {W : World} {a : Option Addr} {c : Nat} {vs : List Ver} (h : RowK 187 3 0 W (.slice a vs.length c) vs.length (vrow vs)) (hl : vs.length ≤ 1000000) (hr : Rise vs) (seq : Int) :
    Calls Try.prog 132 #[.slice a vs.length c, .int .i64 seq] W (CutP W vs seq) := by
  rcases h.1.2 with ⟨e, e2⟩ | ⟨g, cap, cur, e, _⟩
  · injection e with e0 e1 e3
    subst e0
    obtain rfl : vs = [] := List.eq_nil_of_length_eq_zero e1
    subst e3
    exact cut_none W seq
  · injection e with e0 e1 e3
    subst e0
    exact cut_some h hl hr seq

set_option maxHeartbeats 2000000 in
set_option maxRecDepth 100000 in
theorem stCut_any {P : Nat → Prop} {W : World} {s : Nat} {M : StM} (h0 : StoreAt P W s M) (hg : GoodM M) (h50 : M.keys.length < 50000) (key : ByteArray) (seq : Int) :
    Calls Try.prog 99 #[.pointer (some ⟨s, 0, none⟩), .string key, .int .i64 seq] W fun e W' => e = .returned (.tuple #[]) ∧ StoreAt (Nu P W.heap.size) W' s (M.cut1 seq key) ∧ Ext P W W' := by
  obtain ⟨cv, wvs, ls, BT, BC, BM, hS0⟩ := h0
  have hS : St (fun q => P q ∧ q < W.heap.size) W s M cv wvs ls BT BC BM := hS0.keep (Nat.le_refl _) fun q hq hlt _ => ⟨rfl, hq, hlt⟩
  have htot : total ls < 50000 := by
    have h1 := hS.ch.len
    unfold total
    omega
  obtain ⟨hri, hle⟩ := hg.chain key
  obtain ⟨vs, hvs⟩ : ∃ vs, vs = M.chain key := ⟨_, rfl⟩
  have HCT : Hid (M.cut1 seq key = { M with keys := if cutV vs seq = [] then dropM M.keys key else putM M.keys key (cutV vs seq) }) := Lib.hid (by unfold StM.cut1; rw [hvs])
  rw [← hvs] at hri hle
  have HG : Hid (Calls Try.prog 56 #[.pointer (some ⟨s, 2, none⟩), .string key] W fun e w' => ∃ a c b, e = .returned (.tuple #[.slice a vs.length c, .bool b]) ∧
      Hid (Calls Try.prog 132 #[.slice a vs.length c, .int .i64 seq] w' fun e w2 => ∃ a2 c2, e = .returned (.slice a2 (cutV vs seq).length c2) ∧
        Hid ((cutV vs seq = [] → Calls Try.prog 133 #[.pointer (some ⟨s, 2, none⟩), .string key] w2 fun e W2 => (∃ b, e = .returned (.bool b)) ∧ Hid (StoreAt (Nu P W.heap.size) W2 s (M.cut1 seq key) ∧ Ext P W W2)) ∧
          (cutV vs seq ≠ [] → Calls Try.prog 120 #[.pointer (some ⟨s, 2, none⟩), .string key, .slice a2 (cutV vs seq).length c2] w2 fun e W2 => (∃ b, e = .returned (.bool b)) ∧ Hid (StoreAt (Nu P W.heap.size) W2 s (M.cut1 seq key) ∧ Ext P W W2))))) := Lib.hid (by
    obtain ⟨a, c, hv, hrow, _⟩ := hS.chainOf key
    rw [← hvs] at hv hrow
    refine (get_any (hd := mkHd (.int .i64 M.low) cv) hS.tree key).mono ?_
    rintro e w' ⟨rfl, hb⟩
    refine ⟨a, c, _, by rw [← hv], Lib.hid ?_⟩
    refine (cut_chain (hrow.below hb) hle hri seq).mono ?_
    rintro e w2 ⟨a2, c2, rfl, hrow2, hb2⟩
    have hbb : Below W.heap.size W w2 := hb.trans (hb2.mono hb.size)
    have hS2 := hS.below hbb
    have hrow3 : RowK 187 3 W.heap.size w2 (.slice a2 (cutV vs seq).length c2) (cutV vs seq).length (vrow (cutV vs seq)) := hrow2.keep fun q hq => ⟨rfl, Nat.le_trans hb.size (hrow2.lt q hq).1⟩
    refine ⟨a2, c2, rfl, Lib.hid ⟨fun he => ?_, fun hne => ?_⟩⟩
    · refine (drop_step ⟨cv, wvs, ls, BT, BC, BM, hS2⟩ key).mono ?_
      rintro e W3 ⟨hb3, hs3, hE3⟩
      refine ⟨hb3, Lib.hid ⟨?_, (Ext.below hbb).trans (hE3.mono fun q hq => .inl hq.1)⟩⟩
      rw [HCT.out, if_pos he]
      exact hs3.weaken fun q hq => hq.imp (fun h => h.1) (fun h => Nat.le_trans hbb.size h)
    · refine (put_fresh hS2 (n0 := W.heap.size) (fun q hq => hq.2) hbb.size key (cutV vs seq) htot hrow3).mono ?_
      rintro e W3 ⟨hb3, hs3, hE3⟩
      refine ⟨hb3, Lib.hid ⟨?_, (Ext.below hbb).trans (hE3.mono fun q hq => .inl hq.1)⟩⟩
      rw [HCT.out, if_neg hne]
      exact hs3.weaken fun q hq => hq.imp (fun h => h.1) id)
  obtain ⟨xs, hxs⟩ : ∃ xs, xs = cutV vs seq := ⟨_, rfl⟩
  obtain ⟨Q, hQ⟩ : ∃ Q : World → Prop, Q = fun W2 => StoreAt (Nu P W.heap.size) W2 s (M.cut1 seq key) ∧ Ext P W W2 := ⟨_, rfl⟩
  have hQ2 : ∀ W2, Q W2 = (StoreAt (Nu P W.heap.size) W2 s (M.cut1 seq key) ∧ Ext P W W2) := fun W2 => by rw [hQ]
  have HQ2 := Lib.hid hQ2
  simp only [← hQ2] at HG ⊢
  rw [← hxs] at HG
  clear hQ hQ2 hxs HCT hvs hS hS0 htot hg hri hle h50
  go_enter Try.func99, Try.ntmps99
  go_wp2_with fail
  refine HG.out.mono ?_
  rintro e w1 ⟨a, c, b, rfl, hC⟩
  clear HG
  go_wp2_with fail
  refine hC.out.mono ?_
  rintro e w2 ⟨a2, c2, rfl, hN⟩
  clear hC
  cases xs with
  | nil =>
    have HD := Lib.hid (hN.out.1 rfl)
    clear hN
    go_wp2_with fail
    refine HD.out.mono ?_
    rintro e w3 ⟨⟨b3, rfl⟩, hF⟩
    go_wp2
    exact bodyPost_ret (v := .tuple #[]) (by simp [results, Try.results99, go_sem]) rfl ⟨rfl, hF.out⟩
  | cons x r =>
    have HD := Lib.hid (hN.out.2 (by simp))
    clear hN
    obtain ⟨n, hn⟩ : ∃ n, n = r.length := ⟨_, rfl⟩
    simp only [List.length_cons, ← hn] at HD ⊢
    clear hn
    go_wp2_with fail
    refine HD.out.mono ?_
    rintro e w3 ⟨⟨b3, rfl⟩, hF⟩
    go_wp2
    go_end0
    exact ⟨rfl, hF.out⟩

end Go.Proofs.Ytcebnoapgceodaa.sT
end

section
namespace Go.Proofs.Ytcebnoapgceodaa.sT
open Go.RowKit Go.Proofs.Ytcebnoapgceodaa.tC

set_option linter.unusedVariables false
set_option linter.unusedSimpArgs false

abbrev KL := List (ByteArray × List Ver)
/-- the keys rise -/
def RiseM (ks : KL) : Prop := ks.Pairwise fun p q => Lt p.1 q.1
theorem Chs.keys {B : Nat → Prop} {W : World} : ∀ {l : List KV} {ks : KL}, Chs B W l ks → tC.keysOf l = ks.map Prod.fst
  | [], [], _ => rfl
  | p :: r, k :: q, ⟨h1, _, h3⟩ => by
    have := Chs.keys h3
    unfold tC.keysOf at this ⊢
    rw [List.map_cons, List.map_cons, this, h1]
  | _ :: _, [], h => h.elim
  | [], _ :: _, h => h.elim
theorem St.rise {P : Nat → Prop} {W : World} {s : Nat} {M : StM} {cv : Value} {wvs : List Value} {ls : List (List KV)} {BT BC BM : Nat → Prop} (h : St P W s M cv wvs ls BT BC BM) : RiseM M.keys := by
  have h1 := h.tree.2.1.2
  rw [h.ch.keys] at h1
  exact List.pairwise_map.1 h1
theorem StoreAt.rise {P : Nat → Prop} {W : World} {s : Nat} {M : StM} (h : StoreAt P W s M) : RiseM M.keys := by
  obtain ⟨cv, wvs, ls, BT, BC, BM, h⟩ := h
  exact h.rise

def vac1 (f : ByteArray → Bool) (seq : Int) (p : ByteArray × List Ver) : Option (ByteArray × List Ver) := if f p.1 then (if cutV p.2 seq = [] then none else some (p.1, cutV p.2 seq)) else some p
/-- what is let go of some keys -/
def vacK (f : ByteArray → Bool) (seq : Int) (ks : KL) : KL := ks.filterMap (vac1 f seq)
theorem vac1_key {f : ByteArray → Bool} {seq : Int} {p q : ByteArray × List Ver} (h : vac1 f seq p = some q) : q.1 = p.1 := by
  unfold vac1 at h
  split at h
  · split at h
    · cases h
    · cases h; rfl
  · cases h; rfl
theorem vac_keys {f : ByteArray → Bool} {seq : Int} {ks : KL} {q : ByteArray × List Ver} (h : q ∈ vacK f seq ks) : ∃ p ∈ ks, q.1 = p.1 := by
  obtain ⟨p, hp, e⟩ := List.mem_filterMap.1 h
  exact ⟨p, hp, vac1_key e⟩
theorem vac_none (seq : Int) (ks : KL) : vacK (fun _ => false) seq ks = ks := by
  unfold vacK
  rw [show vac1 (fun _ => false) seq = some from funext fun p => by simp [vac1], List.filterMap_some]
theorem vac_congr {f g : ByteArray → Bool} (seq : Int) : ∀ {ks : KL}, (∀ p ∈ ks, f p.1 = g p.1) → vacK f seq ks = vacK g seq ks
  | [], _ => rfl
  | p :: r, h => by
    have ih := vac_congr (f := f) (g := g) seq (ks := r) fun q hq => h q (List.mem_cons_of_mem _ hq)
    have e : vac1 f seq p = vac1 g seq p := by unfold vac1; rw [h p List.mem_cons_self]
    unfold vacK at ih ⊢
    rw [List.filterMap_cons, List.filterMap_cons, e, ih]
theorem vac_app (f : ByteArray → Bool) (seq : Int) (a b : KL) : vacK f seq (a ++ b) = vacK f seq a ++ vacK f seq b := List.filterMap_append
theorem vac_one (f : ByteArray → Bool) (seq : Int) (p : ByteArray × List Ver) (r : KL) : vacK f seq (p :: r) = (match vac1 f seq p with | none => vacK f seq r | some q => q :: vacK f seq r) := by
  unfold vacK
  rw [List.filterMap_cons]
  cases vac1 f seq p <;> rfl
theorem filt_all {l : KL} {f : ByteArray × List Ver → Bool} (h : ∀ p ∈ l, f p = true) : l.filter f = l := List.filter_eq_self.2 h
theorem filt_no {l : KL} {f : ByteArray × List Ver → Bool} (h : ∀ p ∈ l, f p = false) : l.filter f = [] := List.filter_eq_nil_iff.2 fun p hp => by rw [h p hp]; simp

theorem look_split : ∀ {ks : KL}, RiseM ks → ∀ {x : ByteArray} {vs : List Ver}, lookK ks x = some vs → ∃ A C, ks = A ++ (x, vs) :: C ∧ (∀ p ∈ A, Lt p.1 x) ∧ ∀ p ∈ C, Lt x p.1
  | [], _, x, vs, h => by cases h
  | p :: r, hr, x, vs, h => by
    obtain ⟨h1, h2⟩ := List.pairwise_cons.1 hr
    by_cases hk : p.1 = x
    · unfold lookK at h
      rw [List.find?_cons_of_pos (by simpa using hk)] at h
      have e : p.2 = vs := by simpa using h
      exact ⟨[], r, by rw [← hk, ← e]; rfl, by simp, fun q hq => by rw [← hk]; exact h1 q hq⟩
    · have e : lookK (p :: r) x = lookK r x := by unfold lookK; rw [List.find?_cons_of_neg (by simpa using hk)]
      rw [e] at h
      obtain ⟨A, C, e1, h3, h4⟩ := look_split h2 h
      refine ⟨p :: A, C, by rw [e1]; rfl, fun q hq => ?_, h4⟩
      rcases List.mem_cons.1 hq with rfl | hq
      · exact h1 (x, vs) (by rw [e1]; simp)
      · exact h3 q hq
theorem look_none {ks : KL} {x : ByteArray} (h : lookK ks x = none) : ∀ p ∈ ks, p.1 ≠ x := by
  unfold lookK at h
  intro p hp e
  have := List.find?_eq_none.1 (Option.map_eq_none_iff.1 h) p hp
  exact this (by simpa using e)
theorem look_mid {A C : KL} {x : ByteArray} {vs : List Ver} (h : ∀ p ∈ A, Lt p.1 x) : lookK (A ++ (x, vs) :: C) x = some vs := by
  unfold lookK
  rw [List.find?_append, List.find?_eq_none.2 fun p hp => by simpa using lt_ne (h p hp)]
  simp
theorem look_no {ks : KL} {x : ByteArray} (h : ∀ p ∈ ks, p.1 ≠ x) : lookK ks x = none := by
  unfold lookK
  rw [List.find?_eq_none.2 fun p hp => by simpa using h p hp]
  rfl
theorem drop_no' {ks : KL} {x : ByteArray} (h : ∀ p ∈ ks, p.1 ≠ x) : dropM ks x = ks := List.filter_eq_self.2 fun p hp => by simpa using h p hp
theorem put_mid {A C : KL} {x : ByteArray} (hA : ∀ p ∈ A, Lt p.1 x) (hC : ∀ p ∈ C, Lt x p.1) {Y : KL} (hY : ∀ p ∈ Y, p.1 = x) (vs : List Ver) : putM (A ++ (Y ++ C)) x vs = A ++ (x, vs) :: C := by
  unfold putM
  have a1 : A.filter (fun p => decide (Lt p.1 x)) = A := filt_all fun p hp => by simpa using hA p hp
  have a2 : A.filter (fun p => decide (Lt x p.1)) = [] := filt_no fun p hp => by simpa using not_lt_of (hA p hp)
  have c1 : C.filter (fun p => decide (Lt p.1 x)) = [] := filt_no fun p hp => by simpa using not_lt_of (hC p hp)
  have c2 : C.filter (fun p => decide (Lt x p.1)) = C := filt_all fun p hp => by simpa using hC p hp
  have y1 : Y.filter (fun p => decide (Lt p.1 x)) = [] := filt_no fun p hp => by rw [hY p hp]; simpa using Lt.irrefl x
  have y2 : Y.filter (fun p => decide (Lt x p.1)) = [] := filt_no fun p hp => by rw [hY p hp]; simpa using Lt.irrefl x
  rw [List.filter_append, List.filter_append, List.filter_append, List.filter_append, a1, a2, c1, c2, y1, y2]
  simp

theorem vac_step {ks : KL} (hr : RiseM ks) (f : ByteArray → Bool) (seq : Int) {x : ByteArray} (hx : f x = false) :
    (lookK (vacK f seq ks) x).getD [] = (lookK ks x).getD [] ∧ (if cutV ((lookK ks x).getD []) seq = [] then dropM (vacK f seq ks) x else putM (vacK f seq ks) x (cutV ((lookK ks x).getD []) seq)) = vacK (fun k => f k || decide (k = x)) seq ks := by
  cases hl : lookK ks x with
  | none =>
    have h1 := look_none hl
    have h2 : ∀ p ∈ vacK f seq ks, p.1 ≠ x := fun p hp => by
      obtain ⟨q, hq, e⟩ := vac_keys hp
      rw [e]
      exact h1 q hq
    refine ⟨by rw [look_no h2], ?_⟩
    have e0 : cutV (Option.getD (none : Option (List Ver)) []) seq = [] := by unfold cutV; simp
    rw [if_pos e0, drop_no' h2]
    refine vac_congr seq fun p hp => ?_
    simp [h1 p hp]
  | some vs =>
    obtain ⟨A, C, rfl, hA, hC⟩ := look_split hr hl
    have kA : ∀ p ∈ vacK f seq A, Lt p.1 x := fun p hp => by obtain ⟨q, hq, e⟩ := vac_keys hp; rw [e]; exact hA q hq
    have kC : ∀ p ∈ vacK f seq C, Lt x p.1 := fun p hp => by obtain ⟨q, hq, e⟩ := vac_keys hp; rw [e]; exact hC q hq
    have e1 : vacK f seq (A ++ (x, vs) :: C) = vacK f seq A ++ (x, vs) :: vacK f seq C := by
      rw [vac_app, vac_one]
      simp [vac1, hx]
    have cA : vacK (fun k => f k || decide (k = x)) seq A = vacK f seq A := vac_congr seq fun p hp => by simp [lt_ne (hA p hp)]
    have cC : vacK (fun k => f k || decide (k = x)) seq C = vacK f seq C := vac_congr seq fun p hp => by simp [Ne.symm (lt_ne (hC p hp))]
    have e2 : vacK (fun k => f k || decide (k = x)) seq (A ++ (x, vs) :: C) = vacK f seq A ++ ((if cutV vs seq = [] then [] else [(x, cutV vs seq)]) ++ vacK f seq C) := by
      rw [vac_app, vac_one, cA, cC]
      unfold vac1
      simp only [decide_true, Bool.or_true, if_true]
      by_cases hc : cutV vs seq = []
      · simp [hc]
      · simp [hc]
    rw [e1, e2, Option.getD_some]
    refine ⟨by rw [look_mid kA]; rfl, ?_⟩
    by_cases hc : cutV vs seq = []
    · rw [if_pos hc, if_pos hc]
      unfold dropM
      rw [List.filter_append, List.filter_cons_of_neg (by simp), filt_all (l := vacK f seq A) fun p hp => by simpa using lt_ne (kA p hp), filt_all (l := vacK f seq C) fun p hp => by simpa using Ne.symm (lt_ne (kC p hp))]
      rfl
    · rw [if_neg hc, if_neg hc]
      exact put_mid kA kC (Y := [(x, vs)]) (by simp) _

theorem cutV_len (vs : List Ver) (seq : Int) : (cutV vs seq).length ≤ vs.length := by unfold cutV; rw [List.length_drop]; omega
theorem Rise.drop {vs : List Ver} (h : Rise vs) (n : Nat) : Rise (vs.drop n) := fun i j hij hj => by
  rw [List.length_drop] at hj
  rw [List.getElem_drop, List.getElem_drop]
  exact h _ _ (by omega) (by omega)
theorem vac_good {M : StM} (hg : GoodM M) (f : ByteArray → Bool) (seq : Int) : GoodM { M with keys := vacK f seq M.keys } := by
  intro k hk
  obtain ⟨p, hp, e⟩ := List.mem_filterMap.1 (show k ∈ M.keys.filterMap (vac1 f seq) from hk)
  obtain ⟨h1, h2⟩ := hg p hp
  unfold vac1 at e
  split at e
  · split at e
    · cases e
    · cases e
      exact ⟨Rise.drop h1 _, Nat.le_trans (cutV_len _ _) h2⟩
  · cases e
    exact ⟨h1, h2⟩
theorem vac_len (f : ByteArray → Bool) (seq : Int) (ks : KL) : (vacK f seq ks).length ≤ ks.length := List.length_filterMap_le _ _

/-- a key is let go: behind cut1 -/
theorem cut_vac {M : StM} (hr : RiseM M.keys) (f : ByteArray → Bool) (seq : Int) {x : ByteArray} (hx : f x = false) : StM.cut1 { M with keys := vacK f seq M.keys } seq x = { M with keys := vacK (fun k => f k || decide (k = x)) seq M.keys } := by
  obtain ⟨h1, h2⟩ := vac_step hr f seq hx
  unfold StM.cut1 StM.chain
  simp only
  rw [h1, h2]

end Go.Proofs.Ytcebnoapgceodaa.sT
end

section
namespace Go.Proofs.Ytcebnoapgceodaa.sT
open Go.RowKit Go.Proofs.Ytcebnoapgceodaa.tC

set_option linter.unusedVariables false
set_option linter.unusedSimpArgs false

theorem key8 (a b : ByteArray) : a.data.toList = b.data.toList ↔ a = b := ⟨fun e => ByteArray.ext (Array.toList_inj.1 e), fun e => by rw [e]⟩
theorem getS_ins (x : List UInt8 × Value) (k : List UInt8) : ∀ fs : FL, (∀ p ∈ fs, p.1 ≠ x.1) → getS k (insS x fs) = if x.1 = k then some x.2 else getS k fs
  | [], _ => by
    unfold insS getS
    by_cases h : x.1 = k
    · simp [h]
    · simp [h]
  | y :: r, h => by
    have ih := getS_ins x k r fun p hp => h p (List.mem_cons_of_mem _ hp)
    have hy := h y List.mem_cons_self
    unfold insS
    by_cases hb : bytesBefore x.1 y.1 = true
    · rw [if_pos hb]
      unfold getS
      rw [List.find?_cons]
      by_cases e : x.1 = k
      · simp [e]
      · have e2 : (x.1 == k) = false := by simpa using e
        rw [e2]
        simp [e]
    · rw [if_neg hb]
      unfold getS at ih ⊢
      rw [List.find?_cons, List.find?_cons]
      by_cases e : y.1 = k
      · have : x.1 ≠ k := fun e2 => hy (e.trans e2.symm)
        simp [e, this]
      · have e2 : (y.1 == k) = false := by simpa using e
        rw [e2]
        exact ih
theorem getS_del (x k : List UInt8) (h : x ≠ k) : ∀ fs : FL, getS k (delS x fs) = getS k fs
  | [] => rfl
  | y :: r => by
    have ih := getS_del x k h r
    unfold getS delS at ih ⊢
    by_cases e : y.1 = x
    · rw [List.filter_cons_of_neg (by simp [e]), List.find?_cons_of_neg (by simp [e, h])]
      exact ih
    · rw [List.filter_cons_of_pos (by simp [e]), List.find?_cons, List.find?_cons]
      cases y.1 == k
      · exact ih
      · rfl
theorem getS_put (k j : List UInt8) (v : Value) (fs : FL) : getS j (putS k v fs) = if k = j then some v else getS j fs := by
  unfold putS
  rw [getS_ins _ _ _ fun p hp => by
    have := (List.mem_filter.1 hp).2
    simpa using this]
  by_cases h : k = j
  · simp [h]
  · simp only [h, if_false]
    exact getS_del k j h fs

/-- a list of commits in memory -/
def CIs (W : World) (a : Option Addr) (cs : List CmM) : Prop := cs = [] ∨ ∃ b off, a = some ⟨b, off, none⟩ ∧ b < W.heap.size ∧ ∀ i (h : i < cs.length), W.cell? ⟨b, off + i * 3, none⟩ = some (.int .i64 (cs[i]).seq) ∧ W.cell? ⟨b, off + i * 3 + 1, none⟩ = some (.int .i64 (cs[i]).at_) ∧ ∃ wa wc, W.cell? ⟨b, off + i * 3 + 2, none⟩ = some (.slice wa (cs[i]).ws.length wc) ∧ WrsIs W wa (cs[i]).ws
theorem CIs.below {W W' : World} {a : Option Addr} {cs : List CmM} (h : CIs W a cs) (hb : Below W.heap.size W W') : CIs W' a cs := by
  refine h.imp id ?_
  rintro ⟨b, off, e, hlt, hv⟩
  refine ⟨b, off, e, Nat.lt_of_lt_of_le hlt hb.size, fun i hi => ?_⟩
  obtain ⟨h0, h1, wa, wc, h2, h3⟩ := hv i hi
  exact ⟨(hb.cell (p := ⟨b, off + i * 3, none⟩) hlt).trans h0, (hb.cell (p := ⟨b, off + i * 3 + 1, none⟩) hlt).trans h1, wa, wc, (hb.cell (p := ⟨b, off + i * 3 + 2, none⟩) hlt).trans h2, h3.below hb⟩

theorem wrs_of_row {B : Nat → Prop} {W : World} {v : Value} {ws : List Wr} (h : WsAt B W v ws) : ∃ wa wc, v = .slice wa ws.length wc ∧ WrsIs W wa ws := by
  obtain ⟨a, c, rfl, _⟩ := h.1.form
  refine ⟨a, c, rfl, ?_⟩
  by_cases h0 : ws = []
  · exact .inl h0
  · obtain ⟨g, rfl, _, hlt, hc⟩ := h.1.at_ (List.length_pos_iff.2 h0)
    refine .inr ⟨g, 0, rfl, hlt, fun i hi => ?_⟩
    have h1 : ∀ j, j < 3 → ∀ u, (wrcells (ws[i]))[j]? = some u → W.cell? ⟨g, i * 3 + j, none⟩ = some u := fun j hj u hu => hc _ _ ((wrow_get ws i hi j hj).trans hu)
    rw [Nat.zero_add]
    exact ⟨h1 0 (by omega) _ rfl, h1 1 (by omega) _ rfl, h1 2 (by omega) _ rfl⟩

/-- the store's own list -/
theorem cms_is {B : Nat → Prop} {W : World} {a : Option Addr} {c : Nat} {cs : List CmM} {wvs : List Value} (h : RowO 45 3 0 W (.slice a cs.length c) cs.length (cmrow wvs cs)) (hw : CmsAt B W wvs cs) : CIs W a cs := by
  by_cases h0 : cs = []
  · exact .inl h0
  · obtain ⟨g, o, rfl, _, hlt, hc⟩ := h.at_ (List.length_pos_iff.2 h0)
    refine .inr ⟨g, o, rfl, hlt, fun i hi => ?_⟩
    obtain ⟨v, _, e2, e3, e4, e5⟩ := cms_get hw i hi
    obtain ⟨wa, wc, rfl, h4⟩ := wrs_of_row e2
    exact ⟨hc _ _ e3, by rw [Nat.add_assoc]; exact hc _ _ e4, wa, wc, by rw [Nat.add_assoc]; exact hc _ _ e5, h4⟩
theorem CIs.take {W : World} {a : Option Addr} {cs : List CmM} (h : CIs W a cs) (n : Nat) : CIs W a (cs.take n) := by
  rcases h with rfl | ⟨b, off, e, hlt, hv⟩
  · exact .inl (by simp)
  · refine .inr ⟨b, off, e, hlt, fun i hi => ?_⟩
    rw [List.length_take] at hi
    rw [List.getElem_take]
    exact hv i (by omega)

/-- the keys of writes, in a map -/
def KMap (W wr : World) (b : Nat) (ps : List Wr) : Prop := ∃ fs, MapAt 9 wr b ps.length fs ∧ (∀ k : ByteArray, (getS k.data.toList fs).isSome = ps.any fun w => decide (w.key = k)) ∧ W.heap.size ≤ b ∧ Below W.heap.size W wr
theorem KMap.next {W wr : World} {b : Nat} {ps : List Wr} (h : KMap W wr b ps) (x : Wr) (hx : x.key.size ≤ maxLen) (hl : ps.length < 1000000) : ∃ w', (Instr.mapUpdate 172 (.map (some b)) (.string x.key) (.agg #[])).run Try.prog wr = .ok () w' ∧ KMap W w' b (ps ++ [x]) := by
  obtain ⟨fs, hm, hk, hb, hbl⟩ := h
  obtain ⟨w', hrun, hm2, hg⟩ := hm.store (e := 210) Try.underlying9 Try.underlying172 hl x.key hx (.agg #[])
  refine ⟨w', hrun, _, by rw [List.length_append, List.length_singleton]; exact hm2, fun k => ?_, hb, hbl.grown hg hbl.size fun q hq => by have := Option.some.inj hq; omega⟩
  rw [getS_put, List.any_append, ← hk k]
  by_cases e : x.key = k
  · rw [if_pos ((key8 _ _).2 e)]; simp [e]
  · rw [if_neg fun e2 => e ((key8 _ _).1 e2)]; simp [e]
theorem KMap.low {W wr w' : World} {b : Nat} {ps : List Wr} (h : KMap W wr b ps) (hb : Below wr.heap.size wr w') : KMap W w' b ps := by
  obtain ⟨fs, hm, hk, hb2, hbl⟩ := h
  exact ⟨fs, hm.kept (hb.block _ hm.lt), hk, hb2, hbl.trans (hb.mono hbl.size)⟩

/-- all writes of commits -/
def allW (cs : List CmM) : List Wr := cs.flatMap CmM.ws
theorem allW_next (cs : List CmM) {z : Nat} (hz : z < cs.length) : allW (cs.take (z + 1)) = allW (cs.take z) ++ (cs[z]).ws := by
  unfold allW
  rw [List.take_succ_eq_append_getElem hz, List.flatMap_append]
  simp
theorem allW_len (cs : List CmM) (z : Nat) : (allW (cs.take z)).length ≤ (allW cs).length := by
  have : allW cs = allW (cs.take z) ++ allW (cs.drop z) := by unfold allW; rw [← List.flatMap_append, List.take_append_drop]
  rw [this, List.length_append]
  omega

set_option maxHeartbeats 4000000 in
set_option maxRecDepth 100000 in
theorem keysOf_any {W : World} {a : Option Addr} {len cap : Nat} {cs : List CmM} (h : CIs W a cs) (hl : cs.length = len) (hle : len ≤ 1000000) (hall : (allW cs).length ≤ 900000) (hk : ∀ w ∈ allW cs, w.key.size ≤ maxLen) :
    Calls Try.prog 98 #[.slice a len cap] W fun e w' => e = .returned (.map (some W.heap.size)) ∧ KMap W w' W.heap.size (allW cs) := by
  subst hl
  have hmm := @run_makeMap Try.prog
  have H0 : Hid (KMap W (W.alloc (.map #[] 0)) W.heap.size (allW (cs.take 0))) := Lib.hid ⟨[], MapAt.made _ W, fun k => rfl, Nat.le_refl _, (Below.refl _ _).alloc (Nat.le_refl _) _⟩
  have HC := Lib.hid h
  have HK := Lib.hid (And.intro hall hk)
  clear h hall hk
  go_enter Try.func98, Try.ntmps98
  go_wp2_with fail
  go_loopw [11] (fun iv wr => ∃ z : Nat, z ≤ cs.length ∧ iv = .int .i64 (z : Int) ∧ Hid (KMap W wr W.heap.size (allW (cs.take z)))) (fun iv _ => cs.length - (intOf iv).toNat)
  case atStart => exact ⟨0, Nat.zero_le _, rfl, H0⟩
  case round =>
    obtain ⟨z, hz, rfl, hst⟩ := hrel
    clear H0
    by_cases hzl : z < cs.length
    · have hzI : (z : Int) < (cs.length : Int) := by omega
      have hlow : Below W.heap.size W wr := by obtain ⟨fs, _, _, _, h⟩ := hst.out; exact h
      rcases HC.out with hcs | ⟨b, off, ea, hblt, hv⟩
      · exact absurd hzl (by rw [hcs]; simp)
      subst ea
      obtain ⟨k0, k1, wa, wc, k2, hw⟩ := hv z hzl
      replace k0 := (hlow.cell (p := ⟨b, off + z * 3, none⟩) hblt).trans k0
      replace k1 := (hlow.cell (p := ⟨b, off + z * 3 + 1, none⟩) hblt).trans k1
      replace k2 := (hlow.cell (p := ⟨b, off + z * 3 + 2, none⟩) hblt).trans k2
      have HAW := Lib.hid (allW_next cs hzl)
      obtain ⟨x, hx⟩ : ∃ x, x = cs[z] := ⟨_, rfl⟩
      rw [← hx] at k0 k1 k2 hw HAW
      have hwm : ∀ w ∈ x.ws, w ∈ allW cs := fun w hw => List.mem_flatMap.2 ⟨x, by rw [hx]; exact List.getElem_mem hzl, hw⟩
      have hlen2 : (allW (cs.take z)).length + x.ws.length ≤ 900000 := by
        have h1 := allW_len cs (z + 1)
        rw [HAW.out, List.length_append] at h1
        have := HK.out.1
        omega
      obtain ⟨sq, at_, ws⟩ := x
      simp only at k0 k1 k2 hw HAW hwm hlen2
      have HW : Hid (WrsIs W wa ws ∧ ∀ w ∈ ws, w.key.size ≤ maxLen) := Lib.hid ⟨hw, fun w hw => HK.out.2 w (hwm w hw)⟩
      have HL2 := Lib.hid hlen2
      have hwsl : ws.length ≤ 900000 := by omega
      have H1 : Hid (KMap W (wr.alloc (.cells #[.int .i64 sq, .int .i64 at_, .slice wa ws.length wc] 45)) W.heap.size (allW (cs.take z) ++ ws.take 0)) := Lib.hid (by
        have hb : Below wr.heap.size wr (wr.alloc (.cells #[.int .i64 sq, .int .i64 at_, .slice wa ws.length wc] 45)) := (Below.refl _ _).alloc (Nat.le_refl _) _
        simpa using hst.out.low hb)
      clear hx hv hw hwm hlen2 hlow hst
      go_wp2_with fail
      go_loopw [18] (fun jv wq => ∃ y : Nat, y ≤ ws.length ∧ jv = .int .i64 (y : Int) ∧ Hid (KMap W wq W.heap.size (allW (cs.take z) ++ ws.take y))) (fun jv _ => ws.length - (intOf jv).toNat)
      case atStart => exact ⟨0, Nat.zero_le _, rfl, H1⟩
      case round =>
        obtain ⟨y, hy, rfl, hst2⟩ := hrel
        clear H1 k0 k1 k2
        by_cases hyl : y < ws.length
        · have hyI : (y : Int) < (ws.length : Int) := by omega
          have hlow2 : Below W.heap.size W wr := by obtain ⟨fs, _, _, _, h⟩ := hst2.out; exact h
          obtain ⟨b2, off2, rfl, hblt2, ⟨m0, m1, m2⟩, _⟩ := HW.out.1.at_ y hyl
          replace m0 := (hlow2.cell (p := ⟨b2, off2 + y * 3, none⟩) hblt2).trans m0
          replace m1 := (hlow2.cell (p := ⟨b2, off2 + y * 3 + 1, none⟩) hblt2).trans m1
          replace m2 := (hlow2.cell (p := ⟨b2, off2 + y * 3 + 2, none⟩) hblt2).trans m2
          obtain ⟨x, hx⟩ : ∃ x, x = ws[y] := ⟨_, rfl⟩
          rw [← hx] at m0 m1 m2
          have htk : ws.take (y + 1) = ws.take y ++ [x] := by rw [List.take_succ_eq_append_getElem hyl, hx]
          have hxk : x.key.size ≤ maxLen := HW.out.2 x (by rw [hx]; exact List.getElem_mem hyl)
          have hb3 : Below wr.heap.size wr (wr.alloc (.cells #[.string x.key, .string x.val, .bool x.gone] 48)) := (Below.refl _ _).alloc (Nat.le_refl _) _
          obtain ⟨w5, hrun, hK5⟩ := (hst2.out.low hb3).next x hxk (by rw [List.length_append, List.length_take]; have := HL2.out; omega)
          have HN : Hid (KMap W w5 W.heap.size (allW (cs.take z) ++ ws.take (y + 1))) := Lib.hid (by rw [htk, ← List.append_assoc]; exact hK5)
          obtain ⟨xk, xv, xg⟩ := x
          simp only at m0 m1 m2 hrun
          clear hx hst2 htk hxk hb3 hK5 hlow2
          go_wp2
          go_roundw
          case rel => exact ⟨y + 1, by omega, by go_num, HN⟩
          case measure => simp [intOf]; omega
        · obtain rfl : y = ws.length := by omega
          have hyI : ¬ (ws.length : Int) < (ws.length : Int) := by omega
          have HN : Hid (KMap W wr W.heap.size (allW (cs.take (z + 1)))) := Lib.hid (by
            rw [HAW.out]
            have := hst2.out
            rwa [List.take_length] at this)
          clear hst2 hyl hy
          go_wp2
          go_roundw
          case rel => exact ⟨z + 1, by omega, by go_num, HN⟩
          case measure => simp [intOf]; omega
    · obtain rfl : z = cs.length := by omega
      have hzI : ¬ (cs.length : Int) < (cs.length : Int) := by omega
      have HF : Hid (KMap W wr W.heap.size (allW cs)) := Lib.hid (by have := hst.out; rwa [List.take_length] at this)
      clear hst hzl hz
      go_wp2
      go_ret
      exact ⟨rfl, HF.out⟩

end Go.Proofs.Ytcebnoapgceodaa.sT
end

section
namespace Go.Proofs.Ytcebnoapgceodaa.sT
open Go.RowKit Go.Proofs.Ytcebnoapgceodaa.tC Go.ChangeMaps Go.MapKept Go.WideMaps

set_option linter.unusedVariables false
set_option linter.unusedSimpArgs false

/-- the first k elements wiped, the row cut off in front -/
theorem RowO.wipe {E K B n : Nat} {w : World} {g o c : Nat} {cs : List Value} (h : RowO E K B w (.slice (some ⟨g, o, none⟩) n c) n cs) {k : Nat} (hk : k ≤ n) (zs : List Value) (hz : zs.length = k * K) {o' : Nat} (ho : k < c → o' = o + k * K) (ho2 : c = k → o' ≤ o + k * K) :
    RowO E K B (sets w g o zs) (.slice (some ⟨g, o', none⟩) (n - k) (c - k)) (n - k) (cs.drop (k * K)) := by
  obtain ⟨k1, k2, k3⟩ := h.cut hk ho ho2
  refine ⟨k1, k2, ?_⟩
  rcases k3 with ⟨e, _⟩ | ⟨g', o1, c', arr, e, h1, h2, h3, h4, h5, h6⟩
  · injection e with e
    cases e
  · injection e with e _ e2
    injection e with e
    injection e with e0 e1
    subst e0; subst e1; subst e2
    refine .inr ⟨g, o', c - k, _, rfl, h1, h2.sets zs o, h3, h4, by rw [aset_size]; exact h5, fun j u hj => ?_⟩
    by_cases hck : c = k
    · have hl := (List.getElem?_eq_some_iff.1 hj).1
      rw [k1] at hl
      have : n - k = 0 := by omega
      rw [this] at hl
      omega
    · have hkc : k < c := by
        obtain ⟨_, _, e, h7, _⟩ := h.form
        injection e with _ _ e
        omega
      rw [aset_far _ _ _ _ (.inr (by rw [hz]; have := ho hkc; omega))]
      exact h6 j u hj

/-- another commit in the store's own cell: the tree stays -/
theorem tree_head0 {B : Nat → Prop} {W : World} {t : Nat} {ls : List (List KV)} {x0 x1 : Value} (h : @TreeAt (mkHd x0 x1) B W t ls) (y : Value) : @TreeAt (mkHd y x1) B (W.setCell ⟨t, 0, none⟩ y) t ls := by
  obtain ⟨h0, hg, ht, rv, ss, h1, hb, hr, ho, hl, hd⟩ := h
  have hblk : ∀ q, q ≠ t → (W.setCell ⟨t, 0, none⟩ y).heap[q]? = W.heap[q]? := fun q hq => Below.heap_setCell W ⟨t, 0, none⟩ _ q hq
  refine ⟨h0, hg, ht, rv, ss, h1, ?_, hr.keep fun q hq => ⟨hblk q ?_, Nat.zero_le _⟩, ho, hl.keep fun s hs q hq hB _ => ⟨hblk q ?_, hB⟩, hd⟩
  · exact Box.setSame (show Box W t 105 #[x0, x1, rv, .int .i64 (total ls)] from hb) 0 y
  · obtain ⟨arr, hq2⟩ := rowk_box hr hq
    exact box_ne hq2 hb (by decide)
  · obtain ⟨⟨arr, hq2⟩, _⟩ := leaf_types hl s hs q hq
    exact box_ne hq2 hb (by decide)

theorem CmsAt.drop {B : Nat → Prop} {W : World} : ∀ {l : List Value} {cs : List CmM} (n : Nat), CmsAt B W l cs → CmsAt B W (l.drop n) (cs.drop n) ∧ cmrow (l.drop n) (cs.drop n) = (cmrow l cs).drop (n * 3)
  | l, cs, 0, h => ⟨h, by simp⟩
  | [], [], n + 1, _ => ⟨trivial, by simp [cmrow]⟩
  | v :: r, c :: q, n + 1, ⟨_, h⟩ => by
    obtain ⟨h1, h2⟩ := CmsAt.drop n h
    refine ⟨h1, ?_⟩
    rw [List.drop_succ_cons, List.drop_succ_cons, h2, cmrow, show (n + 1) * 3 = 3 + n * 3 by omega, ← List.drop_drop]
    rfl
  | _ :: _, [], _ + 1, h => h.elim
  | [], _ :: _, _ + 1, h => h.elim

theorem cm_slice (ca : Option Addr) (l c n : Nat) (hca : ca = none → c = 0) (ho : ∀ a, ca = some a → ∃ g o, a = ⟨g, o, none⟩) (hn : n ≤ l) (hl : l ≤ c) (hc : c ≤ maxLen) :
    (∀ W, (Instr.slice 27 (.slice ca l c) none (some (.int .i64 (n : Int))) none).run Try.prog W = .ok (.slice ca n c) W) ∧
    ∃ a2, (∀ W, (Instr.slice 27 (.slice ca l c) (some (.int .i64 (n : Int))) none none).run Try.prog W = .ok (.slice a2 (l - n) (c - n)) W) ∧ ((ca = none ∧ a2 = none) ∨ ∃ g o o', ca = some ⟨g, o, none⟩ ∧ a2 = some ⟨g, o', none⟩ ∧ (n < c → o' = o + n * 3) ∧ (c = n → o' ≤ o + n * 3)) := by
  have h0 : (n : Int) ≤ (l : Int) := by omega
  have h1 : (n : Int) ≤ (c : Int) := by omega
  have h2 : (l : Int) ≤ (c : Int) := by omega
  cases ca with
  | none =>
    obtain rfl := hca rfl
    obtain rfl : l = 0 := by omega
    obtain rfl : n = 0 := by omega
    refine ⟨fun W => by go_simp, none, fun W => by go_simp, .inl ⟨rfl, rfl⟩⟩
  | some a =>
    obtain ⟨g, o, rfl⟩ := ho a rfl
    refine ⟨fun W => by go_simp, ?_⟩
    by_cases hcn : c = n
    · refine ⟨some ⟨g, o, none⟩, fun W => ?_, .inr ⟨g, o, o, rfl, rfl, fun h => by omega, fun _ => by omega⟩⟩
      subst hcn
      go_simp
    · refine ⟨some ⟨g, o + n * 3, none⟩, fun W => ?_, .inr ⟨g, o, _, rfl, rfl, fun _ => rfl, fun h => absurd h hcn⟩⟩
      go_simp

theorem Ext.mono' {B B' : Nat → Prop} {W W' : World} (h : Ext B W W') (hB : ∀ q, q < W.heap.size → B q → B' q) : Ext B' W W' := ⟨h.1, h.2.1, h.2.2.1, h.2.2.2.1, fun q hq hn => h.2.2.2.2 q hq fun h2 => hn (hB q hq h2)⟩

/-- behind the loop: the first n commits wiped, the list cut off, the mark moved on -/
theorem vac_end {P : Nat → Prop} {W : World} {s : Nat} {M : StM} (h0 : StoreAt P W s M) (n : Nat) (hn : n ≤ M.cms.length) :
    ∃ ca cc a2 W1, W.cell? ⟨s, 1, none⟩ = some (.slice ca M.cms.length cc) ∧ (∀ W, (Instr.slice 27 (.slice ca M.cms.length cc) none (some (.int .i64 (n : Int))) none).run Try.prog W = .ok (.slice ca n cc) W) ∧
      (∀ ty, (Builtin.clear_ #[27] ty #[.slice ca n cc]).run Try.prog W = .ok (.tuple #[]) W1) ∧ W1.cell? ⟨s, 1, none⟩ = some (.slice ca M.cms.length cc) ∧ W1.frozen? ⟨s, 1, none⟩ = false ∧
      (∀ W, (Instr.slice 27 (.slice ca M.cms.length cc) (some (.int .i64 (n : Int))) none none).run Try.prog W = .ok (.slice a2 (M.cms.length - n) (cc - n)) W) ∧
      (∃ x, (W1.setCell ⟨s, 1, none⟩ (.slice a2 (M.cms.length - n) (cc - n))).cell? ⟨s, 0, none⟩ = some x) ∧ (W1.setCell ⟨s, 1, none⟩ (.slice a2 (M.cms.length - n) (cc - n))).frozen? ⟨s, 0, none⟩ = false ∧
      StoreAt P ((W1.setCell ⟨s, 1, none⟩ (.slice a2 (M.cms.length - n) (cc - n))).setCell ⟨s, 0, none⟩ (.int .i64 ((M.low + n : Nat) : Int))) s { low := M.low + n, cms := M.cms.drop n, keys := M.keys } ∧
      Ext P W ((W1.setCell ⟨s, 1, none⟩ (.slice a2 (M.cms.length - n) (cc - n))).setCell ⟨s, 0, none⟩ (.int .i64 ((M.low + n : Nat) : Int))) := by
  obtain ⟨cv, wvs, ls, BT, BC, BM, h⟩ := h0
  obtain ⟨_, ⟨ca, cc, rfl, hlc, hcm⟩, hc1⟩ := h.reads
  have hca : ca = none → cc = 0 := fun e => by
    rcases h.cm.2.2 with ⟨e2, _⟩ | ⟨g, o, c, arr, e2, _⟩
    · injection e2
    · rw [e] at e2; injection e2 with e2; cases e2
  have hcf : ∀ a, ca = some a → ∃ g o, a = ⟨g, o, none⟩ := fun a e => by
    rcases h.cm.2.2 with ⟨e2, _⟩ | ⟨g, o, c, arr, e2, _⟩
    · rw [e] at e2; injection e2 with e2; cases e2
    · rw [e] at e2; injection e2 with e2; injection e2 with e2; exact ⟨g, o, e2⟩
  obtain ⟨hs1, a2, hs2, hca2⟩ := cm_slice ca M.cms.length cc n hca hcf hn hlc hcm
  obtain ⟨hd1, hd2⟩ := h.ws.drop n
  obtain ⟨i, hi, hz, hi1, hi2⟩ := info_parts infoCm
  -- the wiped world
  have hwipe : ∃ W1, (∀ ty, (Builtin.clear_ #[27] ty #[.slice ca n cc]).run Try.prog W = .ok (.tuple #[]) W1) ∧ RowO 45 3 0 W1 (.slice a2 (M.cms.length - n) (cc - n)) (M.cms.length - n) (cmrow (wvs.drop n) (M.cms.drop n)) ∧ (∀ q, (Value.slice ca M.cms.length cc).ownBlock ≠ some q → W1.heap[q]? = W.heap[q]?) ∧ W1.heap.size = W.heap.size ∧ W1.os = W.os ∧ W1.tape = W.tape ∧ W1.output = W.output ∧ (∀ q, (Value.slice a2 (M.cms.length - n) (cc - n)).ownBlock = some q → (Value.slice ca M.cms.length cc).ownBlock = some q) := by
    rw [hd2]
    rcases hca2 with ⟨rfl, rfl⟩ | ⟨g, o, o', rfl, rfl, ho, ho2⟩
    · obtain rfl := hca rfl
      have hl0 : M.cms.length = 0 := by omega
      obtain rfl : n = 0 := by omega
      refine ⟨W, fun ty => ?_, ?_, fun _ _ => rfl, rfl, rfl, rfl, rfl, fun q hq => hq⟩
      · simp [Builtin.clear_, run_underlying Try.underlying27, Try.zeroValue45, storeCells, Builtin.zeroCells]
      · rw [hl0]
        have := h.cm
        rw [hl0] at this
        simpa using this
    · obtain ⟨_, arr, hbx⟩ := h.cm.box (g := g) rfl
      obtain ⟨zs, hzs⟩ : ∃ zs, zs = (Builtin.zeroCells (Value.cells (.agg #[.int .i64 0, .int .i64 0, .slice none 0 0])) n).toList := ⟨_, rfl⟩
      have hK : (Value.cells (.agg #[.int .i64 0, .int .i64 0, .slice none 0 0])).size = 3 := rfl
      have hzl : zs.length = n * 3 := by rw [hzs, Array.length_toList, size_zeroCells, hK]
      have hroom : o + cc * 3 ≤ arr.size := by
        rcases h.cm.2.2 with ⟨e2, _⟩ | ⟨g', o1, c1, arr1, e2, _, hb1, _, _, hb2, _⟩
        · injection e2 with e2; cases e2
        · injection e2 with e2 _ e3
          injection e2 with e2
          injection e2 with e0 e1
          subst e0; subst e1; subst e3
          have e9 : arr = arr1 := (Obj.cells.inj (Option.some.inj (hbx.symm.trans hb1))).1
          rw [e9]; exact hb2
      refine ⟨sets W g o zs, fun ty => ?_, RowO.wipe h.cm hn zs hzl ho ho2, fun q hq => sets_far _ _ _ _ fun e => hq (by rw [e]; rfl), sets_size _ _ _, ?_, ?_, ?_, fun q hq => hq⟩
      · by_cases hn0 : n = 0
        · subst hn0
          have : zs = [] := List.eq_nil_of_length_eq_zero (by omega)
          rw [this]
          simp [Builtin.clear_, run_underlying Try.underlying27, Try.zeroValue45, storeCells, Builtin.zeroCells, sets]
        · rw [← setCells_sets, hzs]
          refine tCEd.run_clearK W _ _ ty _ Try.underlying27 Try.zeroValue45 (by decide) g o n cc (by omega) (fun j hj => ?_) (fun j hj => hbx.free _)
          rw [hK] at hj
          rw [hbx.cell, Array.getElem?_eq_getElem (by omega)]
          rfl
      · exact (Below.sets zs (B := 0) (a := W) o (Below.refl 0 W) (Nat.zero_le g)).os
      · exact (Below.sets zs (B := 0) (a := W) o (Below.refl 0 W) (Nat.zero_le g)).tape
      · exact (Below.sets zs (B := 0) (a := W) o (Below.refl 0 W) (Nat.zero_le g)).output
  obtain ⟨W1, hclr, hrow, hfar, hsz1, ho1, ho2, ho3, hob⟩ := hwipe
  have hsB := h.bt s h.tree.1
  have hBM : ∀ q, (Value.slice ca M.cms.length cc).ownBlock = some q → BM q := h.cb
  have hT1 : @TreeAt (mkHd (.int .i64 M.low) (.slice ca M.cms.length cc)) BT W1 s ls := TreeAt.keep (hd := mkHd (.int .i64 M.low) (.slice ca M.cms.length cc)) h.tree fun q hq hlt => ⟨hfar q fun e => (h.bm q (hBM q e)).2.2.1 hq, hq⟩
  have hT2 := tree_head hT1 (.slice a2 (M.cms.length - n) (cc - n))
  have hT3 := tree_head0 hT2 (.int .i64 ((M.low + n : Nat) : Int))
  obtain ⟨la, lc, hbx1⟩ := TreeAt.box (hd := mkHd (.int .i64 M.low) (.slice ca M.cms.length cc)) hT1
  obtain ⟨la2, lc2, hbx2⟩ := TreeAt.box (hd := mkHd (.int .i64 M.low) (.slice a2 (M.cms.length - n) (cc - n))) hT2
  have hset : ∀ q, q ≠ s → ((W1.setCell ⟨s, 1, none⟩ (.slice a2 (M.cms.length - n) (cc - n))).setCell ⟨s, 0, none⟩ (.int .i64 ((M.low + n : Nat) : Int))).heap[q]? = W1.heap[q]? := fun q hq => (Below.heap_setCell _ ⟨s, 0, none⟩ _ q hq).trans (Below.heap_setCell W1 ⟨s, 1, none⟩ _ q hq)
  have hszs : ((W1.setCell ⟨s, 1, none⟩ (.slice a2 (M.cms.length - n) (cc - n))).setCell ⟨s, 0, none⟩ (.int .i64 ((M.low + n : Nat) : Int))).heap.size = W.heap.size := by simp [hsz1]
  have hst : ∀ q, ¬ BT q → (Value.slice ca M.cms.length cc).ownBlock ≠ some q → ((W1.setCell ⟨s, 1, none⟩ (.slice a2 (M.cms.length - n) (cc - n))).setCell ⟨s, 0, none⟩ (.int .i64 ((M.low + n : Nat) : Int))).heap[q]? = W.heap[q]? := fun q hq hne => (hset q fun e => hq (by rw [e]; exact h.tree.1)).trans (hfar q hne)
  refine ⟨ca, cc, a2, W1, hc1, hs1, hclr, hbx1.cell 1, hbx1.free 1, hs2, ⟨_, hbx2.cell 0⟩, hbx2.free 0, ⟨.slice a2 (M.cms.length - n) (cc - n), wvs.drop n, ls, BT, BC, BM, ?_⟩, ?_⟩
  · refine { tree := hT3, ch := ?_, ap := h.ap, cm := ?_, cb := fun q hq => hBM q (hob q hq), ws := ?_, bt := ?_, bc := ?_, bm := ?_, sz := ?_ }
    · exact h.ch.keep fun q hq => ⟨hst q (h.bc q hq).2.2 fun e => (h.bm q (hBM q e)).2.2.2 hq, hq⟩
    · rw [List.length_drop]
      exact hrow.keep fun q hq => ⟨hset q fun e => (h.bm q (hBM q (hob q hq))).2.2.1 (by rw [e]; exact h.tree.1), Nat.zero_le _⟩
    · refine hd1.keepB fun q hq hbxq => ⟨hst q (h.bm q hq).2.2.1 fun e => ?_, hq⟩
      obtain ⟨arr, h1⟩ := hbxq
      obtain ⟨_, arr2, h2⟩ := h.cm.box e
      exact box_ne h1 h2 (by decide) rfl
    · intro q hq
      exact ⟨(h.bt q hq).1, by rw [hszs]; exact (h.bt q hq).2⟩
    · intro q hq
      exact ⟨(h.bc q hq).1, by rw [hszs]; exact (h.bc q hq).2.1, (h.bc q hq).2.2⟩
    · intro q hq
      exact ⟨(h.bm q hq).1, by rw [hszs]; exact (h.bm q hq).2.1, (h.bm q hq).2.2⟩
    · have := h.sz
      show M.low + n + (M.cms.drop n).length ≤ _
      rw [List.length_drop]
      omega
  · have hb1 := Below.setCell (B := 0) (Below.refl 0 W1) (p := ⟨s, 1, none⟩) (Nat.zero_le _) (.slice a2 (M.cms.length - n) (cc - n))
    have hb2 := Below.setCell (B := 0) hb1 (p := ⟨s, 0, none⟩) (Nat.zero_le _) (.int .i64 ((M.low + n : Nat) : Int))
    refine ⟨hb2.os.trans ho1, hb2.tape.trans ho2, hb2.output.trans ho3, by rw [hszs]; exact Nat.le_refl _, fun q hq hP => ?_⟩
    exact hst q (fun h2 => hP (h.bt q h2).1) fun e => hP (h.bm q (hBM q e)).1

theorem has_dm (k : List UInt8) : ∀ fs : FL, Maps.has (dm fs) (.string k) = (getS k fs).isSome
  | [] => rfl
  | y :: r => by
    have ih := has_dm k r
    unfold dm Maps.has getS at ih ⊢
    simp only [List.map_cons, List.any_cons, List.find?_cons, Lit.sameKey] at ih ⊢
    rw [ih]
    cases y.1 == k <;> rfl

theorem ranges_keep {P : Program} {k : TypeId} {R : Value → Option (DataW Value × List MemPlace)} {w w' : World} {b r n : Nat} {D : DataW Value} {left : Lit → Bool} {cnt : Nat} (h : w.ranges P k R b r n D left cnt) (hb : w'.heap[b]? = w.heap[b]?) (hr : w'.heap[r]? = w.heap[r]?) : w'.ranges P k R b r n D left cnt := by
  obtain ⟨es, clock, since, seen, c0, h1, F, hs, hD, h2, rest⟩ := h
  exact ⟨es, clock, since, seen, c0, hb.trans h1, F, hs, hD, hr.trans h2, rest⟩

/-- the keys that have come -/
def come (D : DataW Value) (left : Lit → Bool) (k : ByteArray) : Bool := Maps.has D (.string k.data.toList) && !left (.string k.data.toList)

def StM.vacuum (M : StM) (n : Nat) : StM := { low := M.low + n, cms := M.cms.drop n, keys := vacK (fun k => (allW (M.cms.take n)).any fun w => decide (w.key = k)) ((M.low + n : Nat) : Int) M.keys }

/-- between two rounds -/
def VacI (P0 : Nat → Prop) (W : World) (s : Nat) (M : StM) (seq : Int) (b r nm : Nat) (D0 : DataW Value) (wr : World) (left : Lit → Bool) (cnt : Nat) : Prop :=
  wr.ranges Try.prog 9 RV b r nm D0 left cnt ∧ StoreAt (Nu P0 (r + 1)) wr s { M with keys := vacK (come D0 left) seq M.keys } ∧ Ext P0 W wr ∧ r + 1 ≤ wr.heap.size

end Go.Proofs.Ytcebnoapgceodaa.sT
end

section
namespace Go.Proofs.Ytcebnoapgceodaa.sT
open Go.RowKit Go.Proofs.Ytcebnoapgceodaa.tC Go.ChangeMaps Go.MapKept Go.WideMaps

set_option linter.unusedVariables false
set_option linter.unusedSimpArgs false

theorem law_s : Go.Maps.Keyed Try.prog 9 := Maps.string_keyed Try.underlying9

theorem come_start (D : DataW Value) (k : ByteArray) : come D (Maps.has D) k = false := by
  unfold come
  cases Maps.has D (.string k.data.toList) <;> rfl
theorem come_end (D : DataW Value) {left : Lit → Bool} (h : ∀ kl, left kl = false) (k : ByteArray) : come D left k = Maps.has D (.string k.data.toList) := by
  unfold come
  rw [h]; simp
theorem come_next (D : DataW Value) (left : Lit → Bool) (x : ByteArray) (hx : Maps.has D (.string x.data.toList) = true) (hl : left (.string x.data.toList) = true) : come D left x = false ∧ (come D fun y => left y && !y.sameKey (.string x.data.toList)) = fun k => come D left k || decide (k = x) := by
  refine ⟨by unfold come; rw [hl]; simp, funext fun k => ?_⟩
  unfold come
  have hs : (Lit.string k.data.toList).sameKey (.string x.data.toList) = decide (k = x) := by
    show (k.data.toList == x.data.toList) = _
    by_cases e : k = x
    · subst e; simp
    · rw [decide_eq_false e]
      refine Bool.eq_false_iff.2 fun e2 => e ((key8 _ _).1 (eq_of_beq e2))
  show (Maps.has D (.string k.data.toList) && !(left (.string k.data.toList) && !(Lit.string k.data.toList).sameKey (.string x.data.toList))) = _
  rw [hs]
  by_cases e : k = x
  · subst e; simp [hx, hl]
  · simp [e]

/-- one key let go, between two rounds -/
theorem vac_round {P0 : Nat → Prop} {W : World} {s : Nat} {M : StM} {seq : Int} {b r nm : Nat} {D0 : DataW Value} {wr w1 : World} {left : Lit → Bool} {cnt cnt1 : Nat} (h : VacI P0 W s M seq b r nm D0 wr left cnt) (hP : ∀ q, P0 q → q < W.heap.size) (hWb : W.heap.size ≤ b) (hbr : b < r)
    (hg : GoodM M) (hrise : RiseM M.keys) (h50 : M.keys.length < 50000) {x : ByteArray} (hx : Maps.has D0 (.string x.data.toList) = true) (hl : left (.string x.data.toList) = true)
    (hr1 : w1.ranges Try.prog 9 RV b r nm D0 (fun y => left y && !y.sameKey (.string x.data.toList)) cnt1) (hg1 : wr.grownBy w1 (some r)) :
    Calls Try.prog 99 #[.pointer (some ⟨s, 0, none⟩), .string x, .int .i64 seq] w1 fun e w2 => e = .returned (.tuple #[]) ∧ Hid (VacI P0 W s M seq b r nm D0 w2 (fun y => left y && !y.sameKey (.string x.data.toList)) cnt1) := by
  obtain ⟨h1, h2, h3, h4⟩ := h
  obtain ⟨c1, c2⟩ := come_next D0 left x hx hl
  have hwr := h3.2.2.2.1
  have hz1 := hg1.size
  have hnr : ∀ q, q = b ∨ q = r → ¬ Nu P0 (r + 1) q := by
    rintro q hq (h5 | h5)
    · have := hP q h5; omega
    · omega
  -- the world in which the key has come: the store is as it was
  have hS1 : StoreAt (Nu P0 (r + 1)) w1 s { M with keys := vacK (come D0 left) seq M.keys } := by
    obtain ⟨cv, wvs, ls, BT, BC, BM, hS⟩ := h2
    refine ⟨cv, wvs, ls, BT, BC, BM, hS.keep hz1 fun q hq hlt _ => ⟨hg1.block q hlt fun e => ?_, hq⟩⟩
    have := Option.some.inj e
    exact hnr q (.inr this) hq
  refine (stCut_any hS1 (vac_good hg _ seq) (Nat.lt_of_le_of_lt (vac_len _ _ _) h50) x seq).mono ?_
  rintro e w2 ⟨rfl, hs2, hE2⟩
  refine ⟨rfl, Lib.hid ⟨?_, ?_, ?_, by have := hE2.2.2.2.1; omega⟩⟩
  · have hb1 := (World.ranges.owns hr1).lt
    have hr1' := hr1.lt
    exact ranges_keep hr1 (hE2.2.2.2.2 b hb1 (hnr b (.inl rfl))) (hE2.2.2.2.2 r hr1' (hnr r (.inr rfl)))
  · rw [c2, ← cut_vac hrise (come D0 left) seq c1]
    exact hs2.weaken fun q hq => hq.elim id fun h => .inr (by omega)
  · have hE1 : Ext (Nu P0 W.heap.size) wr w1 := ⟨hg1.os, hg1.tape, hg1.output, hz1, fun q hq hn => hg1.block q hq fun e => hn (.inr (by have := Option.some.inj e; omega))⟩
    exact h3.trans (hE1.trans (hE2.mono fun q hq => .inl (hq.imp id fun h => by omega)))

/-- what Vacuum leaves -/
def VacP (P : Nat → Prop) (W : World) (s : Nat) (M : StM) (seq : Int) (e : Ending) (W' : World) : Prop :=
  (M.tells seq = false ∧ e = .returned (.int .i64 1) ∧ Below W.heap.size W W') ∨
  ∃ n : Nat, M.tells seq = true ∧ seq = ((M.low + n : Nat) : Int) ∧ n ≤ M.cms.length ∧ e = .returned (.int .i64 0) ∧ StoreAt (Nu P W.heap.size) W' s (M.vacuum n) ∧ Ext P W W'

set_option maxHeartbeats 4000000 in
set_option maxRecDepth 100000 in
theorem vacuum_any {P : Nat → Prop} {W : World} {s : Nat} {M : StM} (h0 : StoreAt P W s M) (hg : GoodM M) (h50 : M.keys.length < 50000) (hcl : M.cms.length ≤ 1000000) (hall : (allW M.cms).length ≤ 900000) (hk : ∀ w ∈ allW M.cms, w.key.size ≤ maxLen) (seq : Int) :
    Calls Try.prog 50 #[.pointer (some ⟨s, 0, none⟩), .int .i64 seq] W (VacP P W s M seq) := by
  have HT := Lib.hid (tells_any h0 seq)
  obtain ⟨t, ht⟩ : ∃ t, t = M.tells seq := ⟨_, rfl⟩
  rw [← ht] at HT
  cases t
  · have HF : Hid (∀ w', Below W.heap.size W w' → VacP P W s M seq (.returned (.int .i64 1)) w') := Lib.hid fun w' hb => .inl ⟨ht.symm, rfl, hb⟩
    obtain ⟨Q, hQ⟩ : ∃ Q, Q = VacP P W s M seq := ⟨_, rfl⟩
    rw [← hQ] at HF ⊢
    clear hQ ht h0 hg hall hk
    go_enter Try.func50, Try.ntmps50
    go_wp2_with fail
    refine HT.out.mono ?_
    rintro e w1 ⟨rfl, hb⟩
    have H2 := Lib.hid (HF.out w1 hb)
    clear hb HF
    go_wp2
    exact H2.out
  · obtain ⟨n, hn, hnl⟩ : ∃ n : Nat, seq = ((M.low + n : Nat) : Int) ∧ n ≤ M.cms.length := by
      have h1 := ht
      unfold StM.tells StM.last at h1
      simp only [Bool.true_eq, Bool.and_eq_true, decide_eq_true_eq] at h1
      exact ⟨seq.toNat - M.low, by omega, by omega⟩
    have hsz : M.low + M.cms.length ≤ 1099511627776 := by obtain ⟨cv, wvs, ls, BT, BC, BM, h⟩ := h0; exact h.sz
    -- the store at its own blocks
    obtain ⟨P0, hP0e⟩ : ∃ P0 : Nat → Prop, P0 = fun q => P q ∧ q < W.heap.size := ⟨_, rfl⟩
    have hP0 : ∀ q, P0 q → q < W.heap.size := fun q hq => by rw [hP0e] at hq; exact hq.2
    have hPP : ∀ q, P0 q → P q := fun q hq => by rw [hP0e] at hq; exact hq.1
    have hS0 : StoreAt P0 W s M := by
      obtain ⟨cv, wvs, ls, BT, BC, BM, h⟩ := h0
      exact ⟨cv, wvs, ls, BT, BC, BM, h.keep (Nat.le_refl _) fun q hq hlt _ => ⟨rfl, by rw [hP0e]; exact ⟨hq, hlt⟩⟩⟩
    have hrise := hS0.rise
    -- the call of keysOf
    have HK : Hid (∀ w1, Below W.heap.size W w1 → ∃ ca cc, w1.cell? ⟨s, 0, none⟩ = some (.int .i64 M.low) ∧ w1.cell? ⟨s, 1, none⟩ = some (.slice ca M.cms.length cc) ∧ (∀ W, (Instr.slice 27 (.slice ca M.cms.length cc) none (some (.int .i64 (n : Int))) none).run Try.prog W = .ok (.slice ca n cc) W) ∧
        Hid (Calls Try.prog 98 #[.slice ca n cc] w1 fun e w' => e = .returned (.map (some w1.heap.size)) ∧ Hid (KMap w1 w' w1.heap.size (allW (M.cms.take n))))) := Lib.hid fun w1 hb => by
      obtain ⟨cv, wvs, ls, BT, BC, BM, h⟩ := hS0.below hb
      obtain ⟨r0, ⟨ca, cc, rfl, hlc, hcm⟩, r1⟩ := h.reads
      have hcs := (cms_is h.cm h.ws).take n
      have hsl : ∀ W, (Instr.slice 27 (.slice ca M.cms.length cc) none (some (.int .i64 (n : Int))) none).run Try.prog W = .ok (.slice ca n cc) W := fun W => by
        have g0 : (n : Int) ≤ (M.cms.length : Int) := by omega
        have g1 : (M.cms.length : Int) ≤ (cc : Int) := by omega
        have g2 : (n : Int) ≤ (cc : Int) := by omega
        cases ca with
        | none =>
          rcases h.cm.2.2 with ⟨e2, e3⟩ | ⟨g, o, c, arr, e2, _⟩
          · injection e2 with _ _ e2
            subst e2
            have : n = 0 := by omega
            subst this
            rw [e3]
            go_simp
          · injection e2 with e2; cases e2
        | some a => go_simp
      refine ⟨ca, cc, r0, r1, hsl, Lib.hid ?_⟩
      refine (keysOf_any (cap := cc) hcs (by rw [List.length_take]; omega) (by omega) (Nat.le_trans (allW_len _ _) hall) fun w hw => hk w ?_).mono fun e w' h => ⟨h.1, Lib.hid h.2⟩
      obtain ⟨c, hc, hwc⟩ := List.mem_flatMap.1 hw
      exact List.mem_flatMap.2 ⟨c, List.mem_of_mem_take hc, hwc⟩
    -- the end
    have HE : Hid (∀ b r nm D0 wr left cnt, VacI P0 W s M seq b r nm D0 wr left cnt → W.heap.size ≤ r → (∀ kl, left kl = false) → (∀ k : ByteArray, Maps.has D0 (.string k.data.toList) = (allW (M.cms.take n)).any fun w => decide (w.key = k)) →
        ∃ ca cc a2 W1, wr.cell? ⟨s, 1, none⟩ = some (.slice ca M.cms.length cc) ∧ (∀ W, (Instr.slice 27 (.slice ca M.cms.length cc) none (some (.int .i64 (n : Int))) none).run Try.prog W = .ok (.slice ca n cc) W) ∧
      (∀ ty, (Builtin.clear_ #[27] ty #[.slice ca n cc]).run Try.prog wr = .ok (.tuple #[]) W1) ∧ W1.cell? ⟨s, 1, none⟩ = some (.slice ca M.cms.length cc) ∧ W1.frozen? ⟨s, 1, none⟩ = false ∧
      (∀ W, (Instr.slice 27 (.slice ca M.cms.length cc) (some (.int .i64 (n : Int))) none none).run Try.prog W = .ok (.slice a2 (M.cms.length - n) (cc - n)) W) ∧
      (∃ x, (W1.setCell ⟨s, 1, none⟩ (.slice a2 (M.cms.length - n) (cc - n))).cell? ⟨s, 0, none⟩ = some x) ∧ (W1.setCell ⟨s, 1, none⟩ (.slice a2 (M.cms.length - n) (cc - n))).frozen? ⟨s, 0, none⟩ = false ∧
      Hid (VacP P W s M seq (.returned (.int .i64 0)) ((W1.setCell ⟨s, 1, none⟩ (.slice a2 (M.cms.length - n) (cc - n))).setCell ⟨s, 0, none⟩ (.int .i64 seq)))) := Lib.hid fun b r nm D0 wr left cnt hI hWr hl hD => by
      obtain ⟨_, h2, h3, h4⟩ := hI
      have hcome : come D0 left = fun k => (allW (M.cms.take n)).any fun w => decide (w.key = k) := funext fun k => by rw [come_end D0 hl, hD]
      rw [hcome] at h2
      obtain ⟨ca, cc, a2, W1, k1, k2, k3, k4, k5, k6, k7, k8, k9, k10⟩ := vac_end h2 n hnl
      refine ⟨ca, cc, a2, W1, k1, k2, k3, k4, k5, k6, k7, k8, Lib.hid (.inr ⟨n, ht.symm, hn, hnl, rfl, ?_, ?_⟩)⟩
      · rw [hn] at k9 ⊢
        exact k9.weaken fun q hq => hq.imp (hPP q) fun h => by omega
      · rw [hn]
        exact (h3.mono hPP).trans (k10.mono fun q hq => hq.imp (hPP q) fun h => by omega)
    have HG := Lib.hid (And.intro hg (And.intro hrise (And.intro h50 hP0)))
    have HS0 := Lib.hid hS0
    have HN := Lib.hid hn
    have hw3 : IntKind.i64.wrap (seq - (M.low : Int)) = (n : Int) := by rw [IntKind.wrap_i64]; omega
    obtain ⟨Q, hQ⟩ : ∃ Q, Q = VacP P W s M seq := ⟨_, rfl⟩
    rw [← hQ] at HE ⊢
    clear hQ ht h0 hg hall hk hS0 hrise hP0 hPP hP0e hn h50
    go_enter Try.func50, Try.ntmps50
    go_wp2_with fail
    refine HT.out.mono ?_
    rintro e w1 ⟨rfl, hb⟩
    obtain ⟨ca, cc, r0, r1, hsl, hKC⟩ := HK.out w1 hb
    have HB := Lib.hid hb
    clear hb HT HK
    go_wp2_with fail
    refine hKC.out.mono ?_
    rintro e w2 ⟨rfl, hKM⟩
    obtain ⟨fs, hm, hks, hb2, hbl⟩ := hKM.out
    obtain ⟨nm, hnm⟩ : ∃ nm, nm = (allW (M.cms.take n)).length := ⟨_, rfl⟩
    rw [← hnm] at hm
    obtain ⟨D0, hD0⟩ : ∃ D0, D0 = dm fs := ⟨_, rfl⟩
    have HOWN : Hid (w2.ownsMap Try.prog 9 RV w1.heap.size nm D0) := Lib.hid (by rw [hD0]; exact hm)
    have HD : Hid (∀ k : ByteArray, Maps.has D0 (.string k.data.toList) = (allW (M.cms.take n)).any fun w => decide (w.key = k)) := Lib.hid fun k => by rw [hD0, has_dm, hks k]
    have HRV : Hid (∀ (k : List UInt8) (cv : Value), (∀ zd, D0.atKey (.string k) zd = DataW.held cv) → Maps.has D0 (.string k) = true) := Lib.hid fun k cv hat => by
      rw [hD0, has_dm]
      have h1 := hat .nil
      rw [hD0, dm_at] at h1
      cases hg : getS k fs with
      | none => rw [hg] at h1; cases h1
      | some z => rfl
    have hblt : w1.heap.size < w2.heap.size := hm.lt
    have hWw1 : W.heap.size ≤ w1.heap.size := HB.out.size
    have HBL := Lib.hid hbl
    obtain ⟨b, hbe⟩ : ∃ b, b = w1.heap.size := ⟨_, rfl⟩
    rw [← hbe] at HOWN hblt hWw1
    have HBE := Lib.hid hbe
    rw [← hbe]
    clear hKM hm hks hb2 hbl hnm hD0 hKC hbe r0 r1 hsl
    obtain ⟨w0, hrr, hrg0, hg0, hs0⟩ := HOWN.out.range law_s Try.underlying172
    obtain ⟨r, hre⟩ : ∃ r, r = w2.heap.size := ⟨_, rfl⟩
    rw [← hre] at hrr hrg0 hs0
    have HST : Hid (∃ left cnt, VacI P0 W s M seq b r nm D0 w0 left cnt) := Lib.hid (by
      refine ⟨_, _, hrg0, ?_, ?_, by omega⟩
      · rw [show come D0 (Maps.has D0) = fun _ => false from funext fun k => come_start D0 k, vac_none]
        have hbl2 : Below W.heap.size W w0 := (HB.out.trans (HBL.out.mono HB.out.size)).grown hg0 (by omega) fun q hq => by cases hq
        exact (HS0.out.below hbl2).weaken fun q hq => .inl hq
      · have hbl2 : Below W.heap.size W w0 := (HB.out.trans (HBL.out.mono HB.out.size)).grown hg0 (by omega) fun q hq => by cases hq
        exact Ext.below hbl2)
    have hbr : b < r := by omega
    clear hrg0 hg0 hs0 hre hblt HOWN HBL HB HBE HS0
    go_wp2_with fail
    clear hrr
    go_loopw [6] (fun _ wr => Hid (∃ left cnt, VacI P0 W s M seq b r nm D0 wr left cnt)) (fun _ wr => wr.rangeLeft b r)
    case atStart => exact HST
    case round =>
      obtain ⟨left, cnt, hI⟩ := hrel.out
      have HI := Lib.hid hI
      have hrg := hI.1
      clear hrel HST hI
      go_wp2_with (first
        | (at_next; refine wpList_next_ranges _ rfl _ rfl 9 law_s RV Value.string (fun v => v) (fun key kl hk => by obtain ⟨s, e, _⟩ := Go.WideMaps.string_of_keyOf Try.underlying9 hk; exact ⟨s, e⟩) (fun v _ _ => ⟨v, rfl⟩) b r nm D0 left cnt rfl hrg ?_ ?_)
        | fail)
      · intro hc0 hl0
        obtain ⟨ca, cc, a2, W1, k1, k2, k3, k4, k5, k6, ⟨x7, k7⟩, k8, k9⟩ := HE.out b r nm D0 wr left cnt HI.out (by omega) hl0 HD.out
        clear hrg hl0 hc0 HI HE HD HRV HG
        go_wp2
        exact k9.out
      · intro x cv kl ya yb w1' cnt1 hkey hlk hRv hat hrg1 hlt hg1 hs1 hen
        obtain ⟨xs, e1, e2, hxs⟩ := Go.WideMaps.string_of_keyOf Try.underlying9 hkey
        obtain rfl : x = xs := by injection e1
        subst e2
        have hya : (DataW.held cv, ([] : List MemPlace)) = (ya, yb) := Option.some.inj (show some ((DataW.held cv : DataW Value), ([] : List MemPlace)) = some (ya, yb) from hRv)
        have hx : Maps.has D0 (.string x.data.toList) = true := HRV.out _ cv fun zd => by rw [hat zd]; injection hya with h1 _; exact h1.symm
        obtain ⟨g1, g2, g3, g4⟩ := HG.out
        have HC := Lib.hid (vac_round HI.out g4 hWw1 hbr g1 g2 g3 hx hlk hrg1 hg1)
        have HM : Hid (cnt1 < wr.rangeLeft b r) := Lib.hid (by rw [hrg.left_eq]; exact hlt)
        clear hrg hlk hRv hat hrg1 hlt hg1 hs1 hkey hya hx g1 g2 g3 g4 HI hxs e1
        go_wp2_with fail
        refine HC.out.mono ?_
        rintro e w5 ⟨rfl, hV⟩
        have HL : Hid (w5.rangeLeft b r = cnt1) := Lib.hid hV.out.1.left_eq
        have HV : Hid (∃ left cnt, VacI P0 W s M seq b r nm D0 w5 left cnt) := Lib.hid ⟨_, _, hV.out⟩
        clear hV HC
        go_wp2_with fail
        go_roundw
        case rel => exact HV
        case measure => rw [HL.out]; exact HM.out

end Go.Proofs.Ytcebnoapgceodaa.sT
end

section
namespace Go.Proofs.Ytcebnoapgceodaa.sT
open Go.RowKit Go.Proofs.Ytcebnoapgceodaa.tC

set_option linter.unusedVariables false
set_option linter.unusedSimpArgs false

theorem put_split : ∀ {ks : KL}, RiseM ks → ∀ (key : ByteArray), ∃ A Y C, ks = A ++ (Y ++ C) ∧ (∀ p ∈ A, Lt p.1 key) ∧ (∀ p ∈ C, Lt key p.1) ∧ ((Y = [] ∧ lookK ks key = none) ∨ ∃ vs, Y = [(key, vs)] ∧ lookK ks key = some vs)
  | [], _, key => ⟨[], [], [], rfl, by simp, by simp, .inl ⟨rfl, rfl⟩⟩
  | p :: r, hr, key => by
    obtain ⟨h1, h2⟩ := List.pairwise_cons.1 hr
    rcases key_tri p.1 key with h | h | h
    · obtain ⟨A, Y, C, e, hA, hC, hY⟩ := put_split h2 key
      have e1 : lookK (p :: r) key = lookK r key := by unfold lookK; rw [List.find?_cons_of_neg (by simpa using lt_ne h)]
      refine ⟨p :: A, Y, C, by rw [e]; rfl, fun q hq => ?_, hC, by rw [e1]; exact hY⟩
      rcases List.mem_cons.1 hq with rfl | hq
      · exact h
      · exact hA q hq
    · refine ⟨[], [p], r, rfl, by simp, fun q hq => by rw [← h]; exact h1 q hq, .inr ⟨p.2, by rw [← h], ?_⟩⟩
      unfold lookK
      rw [List.find?_cons_of_pos (by simpa using h)]
      rfl
    · refine ⟨[], [], p :: r, rfl, by simp, fun q hq => ?_, .inl ⟨rfl, look_no fun q hq => ?_⟩⟩
      · rcases List.mem_cons.1 hq with rfl | hq
        · exact h
        · exact h.trans (h1 q hq)
      · rcases List.mem_cons.1 hq with rfl | hq
        · exact Ne.symm (lt_ne h)
        · exact Ne.symm (lt_ne (h.trans (h1 q hq)))

theorem look_app (a b : KL) (k : ByteArray) : lookK (a ++ b) k = (lookK a k).or (lookK b k) := by
  unfold lookK
  rw [List.find?_append]
  cases a.find? fun p => decide (p.1 = k) <;> rfl
theorem look_one (key k : ByteArray) (vs : List Ver) (r : KL) : lookK ((key, vs) :: r) k = if key = k then some vs else lookK r k := by
  unfold lookK
  by_cases h : key = k
  · rw [if_pos h, List.find?_cons_of_pos (by simpa using h)]; rfl
  · rw [if_neg h, List.find?_cons_of_neg (by simpa using h)]

/-- put, by its parts -/
theorem putM_split {ks : KL} (hr : RiseM ks) (key : ByteArray) (vs : List Ver) : RiseM (putM ks key vs) ∧ (∀ k, lookK (putM ks key vs) k = if key = k then some vs else lookK ks k) ∧ (∀ p ∈ putM ks key vs, p = (key, vs) ∨ p ∈ ks) ∧
    ((putM ks key vs).map fun k => k.2.length).sum + ((lookK ks key).getD []).length = (ks.map fun k => k.2.length).sum + vs.length ∧ (putM ks key vs).length ≤ ks.length + 1 := by
  obtain ⟨A, Y, C, e, hA, hC, hY⟩ := put_split hr key
  have hY1 : ∀ p ∈ Y, p.1 = key := fun p hp => by
    rcases hY with ⟨rfl, _⟩ | ⟨vs, rfl, _⟩
    · simp at hp
    · rw [List.mem_singleton.1 hp]
  have ep : putM ks key vs = A ++ (key, vs) :: C := by rw [e]; exact put_mid hA hC hY1 vs
  refine ⟨?_, fun k => ?_, fun p hp => ?_, ?_, putM_len _ _ _⟩
  · rw [ep]
    rw [e] at hr
    obtain ⟨r1, r2, r3⟩ := List.pairwise_append.1 hr
    obtain ⟨_, r4, _⟩ := List.pairwise_append.1 r2
    refine List.pairwise_append.2 ⟨r1, List.pairwise_cons.2 ⟨hC, r4⟩, fun p hp q hq => ?_⟩
    rcases List.mem_cons.1 hq with rfl | hq
    · exact hA p hp
    · exact r3 p hp q (List.mem_append.2 (.inr hq))
  · rw [ep, e, look_app, look_app, look_app, look_one]
    by_cases h : key = k
    · subst h
      rw [look_no fun p hp => lt_ne (hA p hp)]
      simp
    · rw [if_neg h, if_neg h, look_no (ks := Y) fun p hp => by rw [hY1 p hp]; exact h]
      simp
  · rw [ep] at hp
    rw [e]
    rcases List.mem_append.1 hp with hp | hp
    · exact .inr (List.mem_append.2 (.inl hp))
    · rcases List.mem_cons.1 hp with hp | hp
      · exact .inl hp
      · exact .inr (List.mem_append.2 (.inr (List.mem_append.2 (.inr hp))))
  · rw [ep]
    rcases hY with ⟨rfl, hn⟩ | ⟨v0, rfl, hn⟩
    · rw [hn, e]
      simp
      omega
    · rw [hn, e]
      simp
      omega

theorem ver_le : ∀ {ks : KL}, (∀ p ∈ ks, p.2 ≠ []) → ks.length ≤ (ks.map fun k => k.2.length).sum ∧ ∀ p ∈ ks, p.2.length ≤ (ks.map fun k => k.2.length).sum
  | [], _ => ⟨by simp, by simp⟩
  | p :: r, h => by
    obtain ⟨h1, h2⟩ := ver_le (ks := r) fun q hq => h q (List.mem_cons_of_mem _ hq)
    have h3 := List.length_pos_iff.2 (h p List.mem_cons_self)
    refine ⟨by simp; omega, fun q hq => ?_⟩
    rcases List.mem_cons.1 hq with rfl | hq
    · simp
    · have := h2 q hq
      simp
      omega

/-- a store within bounds: at most N versions -/
structure SG (M : StM) (N : Nat) : Prop where
  rise : RiseM M.keys
  some : ∀ p ∈ M.keys, p.2 ≠ []
  up : ∀ p ∈ M.keys, Rise p.2 ∧ ∀ v ∈ p.2, v.seq ≤ (M.last : Int)
  ver : M.versions ≤ N
  ws : (allW M.cms).length ≤ N
  key : ∀ w ∈ allW M.cms, w.key.size ≤ 400
  cms : M.cms.length ≤ N

theorem SG.mono {M : StM} {N N' : Nat} (h : SG M N) (hN : N ≤ N') : SG M N' := ⟨h.rise, h.some, h.up, Nat.le_trans h.ver hN, Nat.le_trans h.ws hN, h.key, Nat.le_trans h.cms hN⟩
theorem SG.new (n : Nat) : SG (StM.new n) 0 := ⟨List.Pairwise.nil, fun p hp => by simp [StM.new] at hp, fun p hp => by simp [StM.new] at hp, by simp [StM.versions, StM.new], by simp [allW, StM.new], fun w hw => by simp [allW, StM.new] at hw, by simp [StM.new]⟩
theorem SG.good {M : StM} {N : Nat} (h : SG M N) (hN : N ≤ 900000) : GoodM M := fun p hp => ⟨(h.up p hp).1, by have := (ver_le h.some).2 p hp; have := h.ver; unfold StM.versions at this; omega⟩
theorem SG.room {M : StM} {N k : Nat} (h : SG M N) (hN : N + k < 50000) : Room M k := by
  have h1 := ver_le h.some
  have h2 := h.ver
  unfold StM.versions at h2
  refine ⟨by omega, fun p hp => by have := h1.2 p hp; omega, by omega⟩
theorem SG.keys {M : StM} {N : Nat} (h : SG M N) (hN : N < 50000) : M.keys.length < 50000 := by
  have h1 := ver_le h.some
  have h2 := h.ver
  unfold StM.versions at h2
  omega

theorem chain_mem {M : StM} {key : ByteArray} {P : Ver → Prop} (h : ∀ p ∈ M.keys, ∀ v ∈ p.2, P v) : ∀ v ∈ M.chain key, P v := by
  unfold StM.chain
  cases hl : lookK M.keys key with
  | none => intro v hv; simp at hv
  | some vs =>
    obtain ⟨k, hk, e⟩ := look_mem hl
    rw [Option.getD_some, ← e]
    exact h k hk
theorem rise_snoc {vs : List Ver} (h : Rise vs) {x : Ver} (hx : ∀ v ∈ vs, v.seq ≤ x.seq) : Rise (vs ++ [x]) := fun i j hij hj => by
  rw [List.length_append, List.length_singleton] at hj
  by_cases hj2 : j < vs.length
  · rw [List.getElem_append_left (by omega), List.getElem_append_left hj2]
    exact h i j hij hj2
  · obtain rfl : j = vs.length := by omega
    rw [List.getElem_concat_length (a := x) (l := vs) rfl]
    by_cases hi : i < vs.length
    · rw [List.getElem_append_left hi]
      exact hx _ (List.getElem_mem hi)
    · obtain rfl : i = vs.length := by omega
      rw [List.getElem_concat_length (a := x) (l := vs) rfl]
      exact Int.le_refl _

/-- the keys' own bounds, one write more -/
def KG (ks : KL) (la : Int) (n : Nat) : Prop := RiseM ks ∧ (∀ p ∈ ks, p.2 ≠ []) ∧ (∀ p ∈ ks, Rise p.2 ∧ ∀ v ∈ p.2, v.seq ≤ la) ∧ (ks.map fun k => k.2.length).sum ≤ n
theorem KG.put {M : StM} {la : Int} {n : Nat} (h : KG M.keys la n) (key : ByteArray) (x : Ver) (hx : x.seq = la) : KG (M.put1 key x).keys la (n + 1) := by
  obtain ⟨h1, h2, h3, h4⟩ := h
  obtain ⟨p1, p2, p3, p4, _⟩ := putM_split h1 key (M.chain key ++ [x])
  have hch := chain_mem (key := key) fun p hp => (h3 p hp).2
  have hri : Rise (M.chain key) := by
    unfold StM.chain
    cases hl : lookK M.keys key with
    | none => exact fun i j _ hj => absurd hj (by simp)
    | some vs =>
      obtain ⟨k, hk, e⟩ := look_mem hl
      rw [Option.getD_some, ← e]
      exact (h3 k hk).1
  refine ⟨p1, fun p hp => ?_, fun p hp => ?_, ?_⟩
  · rcases p3 p hp with rfl | hp
    · simp
    · exact h2 p hp
  · rcases p3 p hp with rfl | hp
    · refine ⟨rise_snoc hri fun v hv => by rw [hx]; exact hch v hv, fun v hv => ?_⟩
      rcases List.mem_append.1 hv with hv | hv
      · exact hch v hv
      · rw [List.mem_singleton.1 hv, hx]; exact Int.le_refl _
    · exact h3 p hp
  · rw [List.length_append, List.length_singleton] at p4
    unfold StM.chain at p4
    unfold StM.put1 StM.chain
    simp only at p4 ⊢
    omega
theorem write_cons (M : StM) (seq : Int) (w : Wr) (r : List Wr) : M.write seq (w :: r) = (M.put1 w.key ⟨seq, w.val, w.gone⟩).write seq r := rfl
theorem KG.write {la : Int} : ∀ {ws : List Wr} {M : StM} {n : Nat}, KG M.keys la n → KG (M.write la ws).keys la (n + ws.length)
  | [], _, _, h => h
  | w :: r, M, n, h => by
    have := KG.write (ws := r) (h.put w.key ⟨la, w.val, w.gone⟩ rfl)
    rw [write_cons, List.length_cons, show n + (r.length + 1) = n + 1 + r.length by omega]
    exact this
theorem write_low : ∀ (ws : List Wr) (M : StM) (seq : Int), (M.write seq ws).low = M.low ∧ (M.write seq ws).cms = M.cms
  | [], _, _ => ⟨rfl, rfl⟩
  | w :: r, M, seq => by
    rw [write_cons]
    obtain ⟨h1, h2⟩ := write_low r (M.put1 w.key ⟨seq, w.val, w.gone⟩) seq
    exact ⟨h1, h2⟩
theorem SG.base {n : Nat} (ws : List Wr) : SG ((StM.new n).write n ws) ws.length := by
  have hk : KG (StM.new n).keys (n : Int) 0 := ⟨List.Pairwise.nil, fun p hp => by simp [StM.new] at hp, fun p hp => by simp [StM.new] at hp, by simp [StM.new]⟩
  obtain ⟨k1, k2, k3, k4⟩ := hk.write (ws := ws)
  obtain ⟨e1, e2⟩ := write_low ws (StM.new n) (n : Int)
  have e3 : (StM.new n).cms = [] := rfl
  have e4 : ((StM.new n).write n ws).last = n := by unfold StM.last; rw [e1, e2, e3]; rfl
  exact ⟨k1, k2, by rw [e4]; exact k3, by unfold StM.versions; omega, by rw [e2, e3]; simp [allW], by rw [e2, e3]; simp [allW], by rw [e2, e3]; simp⟩
theorem rightL_key {ws : List Wr} (h : rightL ws = true) : ∀ w ∈ ws, w.key.size ≤ 400 := by
  intro w hw
  obtain ⟨i, hi, rfl⟩ := List.getElem_of_mem hw
  unfold rightL rightW at h
  simp only [Bool.and_eq_true, List.all_eq_true, List.mem_range] at h
  have h1 := h.2 i hi
  unfold okR at h1
  rw [List.getElem?_eq_getElem hi] at h1
  simp only [Bool.and_eq_true] at h1
  have h2 := h1.1
  unfold isR at h2
  simp only [Bool.and_eq_true, decide_eq_true_eq] at h2
  exact h2.1.1.2
theorem commit_low (M : StM) (seq at_ : Int) (ws : List Wr) : (M.commit seq at_ ws).low = M.low ∧ (M.commit seq at_ ws).cms = M.cms ++ [⟨seq, at_, ws⟩] := by
  unfold StM.commit
  exact write_low ws _ seq
theorem commit_last (M : StM) (seq at_ : Int) (ws : List Wr) : (M.commit seq at_ ws).last = M.last + 1 := by
  obtain ⟨h1, h2⟩ := commit_low M seq at_ ws
  unfold StM.last
  rw [h1, h2, List.length_append, List.length_singleton]
  omega
theorem allW_snoc (cs : List CmM) (c : CmM) : allW (cs ++ [c]) = allW cs ++ c.ws := by unfold allW; simp
theorem SG.commit {M : StM} {N : Nat} (h : SG M N) {seq at_ : Int} {ws : List Wr} (hf : M.fits seq at_ ws = true) : SG (M.commit seq at_ ws) (N + ws.length + 1) := by
  have hf2 := hf
  unfold StM.fits at hf2
  simp only [Bool.and_eq_true, decide_eq_true_eq] at hf2
  obtain ⟨⟨⟨⟨q1, q2⟩, q3⟩, q4⟩, q5⟩ := hf2
  obtain ⟨e1, e2⟩ := commit_low M seq at_ ws
  have hk : KG (M.push ⟨seq, at_, ws⟩).keys seq N := ⟨h.rise, h.some, fun p hp => ⟨(h.up p hp).1, fun v hv => by have := (h.up p hp).2 v hv; omega⟩, h.ver⟩
  obtain ⟨k1, k2, k3, k4⟩ := hk.write (ws := ws)
  refine ⟨k1, k2, fun p hp => ⟨(k3 p hp).1, fun v hv => ?_⟩, ?_, ?_, ?_, ?_⟩
  · have := (k3 p hp).2 v hv
    rw [commit_last]
    omega
  · unfold StM.versions StM.commit; omega
  · rw [e2, allW_snoc, List.length_append]; have := h.ws; simp only; omega
  · rw [e2, allW_snoc]
    intro w hw
    rcases List.mem_append.1 hw with hw | hw
    · exact h.key w hw
    · exact rightL_key q5 w hw
  · rw [e2, List.length_append, List.length_singleton]; have := h.cms; omega

/-- a store in memory that shares nothing with K's blocks, all of its own behind n0 -/
def Sep (n0 : Nat) (K : Nat → Prop) (W : World) (s : Nat) (M : StM) : Prop := (∃ P, StoreAt P W s M ∧ ∀ q, P q → n0 ≤ q ∧ q < W.heap.size ∧ ¬ K q) ∧ (∀ q, K q → q < W.heap.size) ∧ n0 ≤ W.heap.size
theorem Sep.below {n0 : Nat} {K : Nat → Prop} {W W' : World} {s : Nat} {M : StM} (h : Sep n0 K W s M) (hb : Below W.heap.size W W') : Sep n0 (fun q => K q ∨ (W.heap.size ≤ q ∧ q < W'.heap.size)) W' s M := by
  obtain ⟨⟨P, h1, h2⟩, h3, h4⟩ := h
  have hz := hb.size
  refine ⟨⟨P, h1.below hb, fun q hq => ?_⟩, ?_, by omega⟩
  · obtain ⟨k1, k2, k3⟩ := h2 q hq
    exact ⟨k1, by omega, fun h => h.elim k3 fun h => by omega⟩
  · rintro q (hq | hq)
    · have := h3 q hq; omega
    · exact hq.2
theorem Sep.less {n0 : Nat} {K K' : Nat → Prop} {W : World} {s : Nat} {M : StM} (h : Sep n0 K W s M) (hK : ∀ q, K' q → K q) : Sep n0 K' W s M := by
  obtain ⟨⟨P, h1, h2⟩, h3, h4⟩ := h
  exact ⟨⟨P, h1, fun q hq => ⟨(h2 q hq).1, (h2 q hq).2.1, fun h => (h2 q hq).2.2 (hK q h)⟩⟩, fun q hq => h3 q (hK q hq), h4⟩
theorem Sep.at_ {n0 : Nat} {K : Nat → Prop} {W : World} {s : Nat} {M : StM} (h : Sep n0 K W s M) : ∃ P, StoreAt P W s M := by
  obtain ⟨⟨P, h1, _⟩, _⟩ := h
  exact ⟨P, h1⟩
/-- what a turn of the store leaves as it was -/
structure Kept (n0 : Nat) (K : Nat → Prop) (W W' : World) : Prop where
  below : Below n0 W W'
  same : ∀ q, K q → W'.heap[q]? = W.heap[q]?
  size : W.heap.size ≤ W'.heap.size
theorem Kept.of {n0 : Nat} {K : Nat → Prop} {W W' : World} (hb : Below W.heap.size W W') (hn : n0 ≤ W.heap.size) (hK : ∀ q, K q → q < W.heap.size) : Kept n0 K W W' := ⟨hb.mono hn, fun q hq => hb.block q (hK q hq), hb.size⟩
theorem Kept.trans {n0 : Nat} {K : Nat → Prop} {W W1 W2 : World} (h : Kept n0 K W W1) (k : Kept n0 K W1 W2) : Kept n0 K W W2 := ⟨h.below.trans k.below, fun q hq => (k.same q hq).trans (h.same q hq), Nat.le_trans h.size k.size⟩
theorem kept_ext {n0 : Nat} {K P : Nat → Prop} {W W' : World} (hE : Ext P W W') (h2 : ∀ q, P q → n0 ≤ q ∧ q < W.heap.size ∧ ¬ K q) (h3 : ∀ q, K q → q < W.heap.size) (h4 : n0 ≤ W.heap.size) : Kept n0 K W W' :=
  ⟨ext_below hE (fun q hq => (h2 q hq).1) h4, fun q hq => hE.2.2.2.2 q (h3 q hq) fun hp => (h2 q hp).2.2 hq, hE.2.2.2.1⟩
theorem sep_nu {n0 : Nat} {K P : Nat → Prop} {W W' : World} {s : Nat} {M : StM} (hS : StoreAt (Nu P W.heap.size) W' s M) (hz : W.heap.size ≤ W'.heap.size) (h2 : ∀ q, P q → n0 ≤ q ∧ q < W.heap.size ∧ ¬ K q) (h3 : ∀ q, K q → q < W.heap.size) (h4 : n0 ≤ W.heap.size) : Sep n0 K W' s M := by
  obtain ⟨cv, wvs, ls, BT, BC, BM, h⟩ := hS
  refine ⟨⟨fun q => Nu P W.heap.size q ∧ q < W'.heap.size, ⟨cv, wvs, ls, BT, BC, BM, h.keep (Nat.le_refl _) fun q hq hlt _ => ⟨rfl, hq, hlt⟩⟩, fun q hq => ?_⟩, fun q hq => by have := h3 q hq; omega, by omega⟩
  obtain ⟨hq | hq, hlt⟩ := hq
  · exact ⟨(h2 q hq).1, hlt, (h2 q hq).2.2⟩
  · exact ⟨by omega, hlt, fun hK => by have := h3 q hK; omega⟩

theorem sep_new {n0 : Nat} {W : World} (seq : Int) {a : Option Addr} {len cap : Nat} {ws : List Wr} (h : WrsIs W a ws) (hl : ws.length = len) (hle : len ≤ 40000) :
    Calls Try.prog 33 #[.int .i64 seq, .slice a len cap] W fun e W' => Below W.heap.size W W' ∧ ((newOK seq ws = false ∧ e = .returned (.tuple #[.pointer none, .int .i64 1])) ∨ (newOK seq ws = true ∧ ∃ (s lo : Nat), (lo : Int) = seq ∧ lo ≤ 1099511627776 ∧ e = .returned (.tuple #[.pointer (some ⟨s, 0, none⟩), .int .i64 0]) ∧ Sep W.heap.size (fun _ => False) W' s ((StM.new lo).write seq ws))) := by
  refine (new_any (cap := cap) seq h hl hle).mono ?_
  rintro e W' ⟨hb, h1 | ⟨h1, s, lo, h2, h3, h4, h5⟩⟩
  · exact ⟨hb, .inl h1⟩
  · refine ⟨hb, .inr ⟨h1, s, lo, h2, h3, h4, ?_⟩⟩
    obtain ⟨cv, wvs, ls, BT, BC, BM, h⟩ := h5
    exact ⟨⟨fun q => W.heap.size ≤ q ∧ q < W'.heap.size, ⟨cv, wvs, ls, BT, BC, BM, h.keep (Nat.le_refl _) fun q hq hlt _ => ⟨rfl, hq, hlt⟩⟩, fun q hq => ⟨hq.1, hq.2, fun h => h⟩⟩, fun q hq => hq.elim, hb.size⟩

theorem sep_commit {n0 : Nat} {K : Nat → Prop} {W : World} {s : Nat} {M : StM} (h : Sep n0 K W s M) {N : Nat} (hg : SG M N) (seq at_ : Int) {a : Option Addr} {len cap : Nat} {ws : List Wr} (hw : WrsIs W a ws) (hl : ws.length = len) (hle : N + len < 40000) (ha : ws = [] ∨ ∀ b off, a = some ⟨b, off, none⟩ → b < n0 ∨ K b) :
    Calls Try.prog 49 #[.pointer (some ⟨s, 0, none⟩), .agg #[.int .i64 seq, .int .i64 at_, .slice a len cap]] W fun e W' => Kept n0 K W W' ∧ ((M.fits seq at_ ws = false ∧ e = .returned (.int .i64 1) ∧ Sep n0 K W' s M) ∨ (M.fits seq at_ ws = true ∧ e = .returned (.int .i64 0) ∧ Sep n0 K W' s (M.commit seq at_ ws))) := by
  obtain ⟨⟨P, h1, h2⟩, h3, h4⟩ := h
  refine (commit_any (cap := cap) h1 seq at_ hw hl (by omega) (ha.imp id fun hq b off e hp => ?_) (hg.room (by omega)) (by have := hg.cms; omega)).mono ?_
  · rcases hq b off e with hq | hq
    · have := (h2 b hp).1; omega
    · exact (h2 b hp).2.2 hq
  · rintro e W' ⟨hE, hc⟩
    have hz := hE.2.2.2.1
    refine ⟨kept_ext hE h2 h3 h4, hc.imp (fun ⟨c1, c2, c3⟩ => ⟨c1, c2, sep_nu c3 hz h2 h3 h4⟩) (fun ⟨c1, c2, c3⟩ => ⟨c1, c2, sep_nu c3 hz h2 h3 h4⟩)⟩

theorem sep_vacuum {n0 : Nat} {K : Nat → Prop} {W : World} {s : Nat} {M : StM} (h : Sep n0 K W s M) {N : Nat} (hg : SG M N) (hN : N < 40000) (seq : Int) :
    Calls Try.prog 50 #[.pointer (some ⟨s, 0, none⟩), .int .i64 seq] W fun e W' => Kept n0 K W W' ∧ ((M.tells seq = false ∧ e = .returned (.int .i64 1) ∧ Sep n0 K W' s M) ∨ ∃ n : Nat, M.tells seq = true ∧ seq = ((M.low + n : Nat) : Int) ∧ n ≤ M.cms.length ∧ e = .returned (.int .i64 0) ∧ Sep n0 K W' s (M.vacuum n)) := by
  obtain ⟨⟨P, h1, h2⟩, h3, h4⟩ := h
  refine (vacuum_any h1 (hg.good (by omega)) (hg.keys (by omega)) (by have := hg.cms; omega) (by have := hg.ws; omega) (fun w hw => by have := hg.key w hw; unfold maxLen; omega) seq).mono ?_
  rintro e W' (⟨c1, c2, hb⟩ | ⟨n, c1, c2, c3, c4, c5, hE⟩)
  · refine ⟨Kept.of hb h4 h3, .inl ⟨c1, c2, ⟨P, h1.below hb, fun q hq => ⟨(h2 q hq).1, by have := (h2 q hq).2.1; have := hb.size; omega, (h2 q hq).2.2⟩⟩, fun q hq => by have := h3 q hq; have := hb.size; omega, by have := hb.size; omega⟩⟩
  · exact ⟨kept_ext hE h2 h3 h4, .inr ⟨n, c1, c2, c3, c4, sep_nu c5 hE.2.2.2.1 h2 h3 h4⟩⟩

end Go.Proofs.Ytcebnoapgceodaa.sT
end
