/-
  tree: Clone (trees of int).
-/
import Derived.Test.YtkohmiegkebmeaaTFromMI
import Derived.Test.YtkohmiegkebmeaaTOpenI
import Derived.Test.YtkohmiegkebmeaaTClnI
namespace Go.Proofs.Ytkohmiegkebmeaa.tI
open Go.RowKit

set_option linter.unusedVariables false

theorem madeRows : (Try.prog.info? 65).map (fun i => (i.zero, i.size, i.bytes)) = some (some (.slice none 0 0), 1, 24) := by kernel_rfl

theorem make_rows (n : Nat) (hn : n ≤ 100000) :
    ∃ arr : Array Value, arr.size = n ∧ ∀ w, (Instr.makeSlice 45 (.int .i64 (n : Int)) (.int .i64 (n : Int))).run Try.prog w = .ok (.slice (some ⟨w.heap.size, 0, none⟩) n n) (w.alloc (.cells arr 65)) := by
  obtain ⟨i, hi, hz, hi1, hi2⟩ := info_parts madeRows
  refine ⟨madeCells (Value.slice none 0 0).cells (n * 1), by rw [size_madeCells, Nat.mul_one], fun w => ?_⟩
  have h2 : i.bytes * n ≤ 200 * 100000 := by rw [hi2]; omega
  have h := run_makeSlice (P := Try.prog) w 45 65 i (.slice none 0 0) Try.underlying45 hi hz .i64 .i64 (n : Int) (n : Int) (by omega) (Int.le_refl _) (by rw [hi1]; simp only [Int.toNat_natCast]; omega) (by rw [← Int.natCast_mul]; omega) (by omega)
  rw [hi1] at h
  simpa using h

/-- what is laid of a tree's clone -/
def Cl (W : World) (ls : List (List KV)) (wr : World) (k : Nat) (arr : Array Value) (sk : List Value) : Prop :=
  arr.size = ls.length ∧ Box wr W.heap.size 65 arr ∧ sk.length = k ∧ (∀ i, i < k → arr[i]? = sk[i]?) ∧ LeavesAt (W.heap.size ≤ ·) wr sk (ls.take k) ∧ sk.Pairwise Ap ∧ Below W.heap.size W wr

theorem Cl.next {W wr w' : World} {ls : List (List KV)} {k : Nat} {arr : Array Value} {sk : List Value} (h : Cl W ls wr k arr sk) (hk : k < ls.length) {v : Value} (hv : RowK 67 2 wr.heap.size w' v (ls[k]).length (ecells ls[k])) (hb : Below wr.heap.size wr w') :
    Cl W ls (w'.setCell ⟨W.heap.size, k, none⟩ v) (k + 1) (arr.setIfInBounds k v) (sk ++ [v]) := by
  obtain ⟨h1, h2, h3, h4, h5, h6, h7⟩ := h
  have hR := h2.lt
  have h2' : Box w' W.heap.size 65 arr := (hb.block _ hR).trans h2
  have hvn : ∀ q, v.ownBlock = some q → q ≠ W.heap.size := fun q hq e => by have := (hv.lt q hq).1; omega
  have hold : ∀ s ∈ sk, ∀ q, s.ownBlock = some q → q ≠ W.heap.size ∧ q < wr.heap.size := fun s hs q hq => by
    obtain ⟨⟨a, hbx⟩, _⟩ := leaf_types h5 s hs q hq
    exact ⟨box_ne hbx h2 (by decide), hbx.lt⟩
  refine ⟨by simpa using h1, h2'.setSame k v, by simp [h3], fun i hi => ?_, ?_, ?_, (h7.trans (hb.mono h7.size)).setCell (p := ⟨W.heap.size, k, none⟩) (Nat.le_refl _) v⟩
  · by_cases e : i = k
    · subst e
      rw [Array.getElem?_setIfInBounds_self_of_lt (by omega), List.getElem?_append_right (by omega), h3, Nat.sub_self]
      rfl
    · rw [Array.getElem?_setIfInBounds_ne (Ne.symm e), h4 i (by omega), List.getElem?_append_left (by omega)]
  · rw [List.take_succ_eq_append_getElem hk]
    refine LeavesAt.join (h5.keep fun s hs q hq hB hl => ⟨(Below.heap_setCell w' ⟨W.heap.size, k, none⟩ v q (hold s hs q hq).1).trans (hb.block q hl), hB⟩) ⟨⟨?_, fun q hq => ?_⟩, trivial⟩
    · exact hv.keep fun q hq => ⟨Below.heap_setCell w' ⟨W.heap.size, k, none⟩ v q (hvn q hq), Nat.zero_le _⟩
    · have := (hv.lt q hq).1
      have := h7.size
      show W.heap.size ≤ q
      omega
  · refine List.pairwise_append.2 ⟨h6, List.pairwise_singleton _ _, fun s hs x hx q hq hq2 => ?_⟩
    obtain rfl : x = v := by simpa using hx
    have h8 := (hold s hs q hq).2
    have h9 := (hv.lt q hq2).1
    omega

def CloneP (W : World) (ls : List (List KV)) (e : Ending) (w' : World) : Prop := ∃ t2, e = .returned (.pointer (some ⟨t2, 0, none⟩)) ∧ Below W.heap.size W w' ∧ TreeAt (W.heap.size ≤ ·) w' t2 ls

theorem Cl.done {W wr : World} {ls : List (List KV)} {arr : Array Value} {sk : List Value} (h : Cl W ls wr ls.length arr sk) (hg : GoodT ls) (h50 : total ls ≤ 50000) :
    CloneP W ls (.returned (.pointer (some ⟨wr.heap.size, 0, none⟩))) (wr.alloc (.cells #[.slice (some ⟨W.heap.size, 0, none⟩) ls.length ls.length, .int .i64 (total ls)] 47)) := by
  obtain ⟨h1, h2, h3, h4, h5, h6, h7⟩ := h
  rw [List.take_length] at h5
  have hls := Nat.le_trans (ls_le hg.1) h50
  have hal : ∀ q, q < wr.heap.size → (wr.alloc (.cells #[.slice (some ⟨W.heap.size, 0, none⟩) ls.length ls.length, .int .i64 (total ls)] 47)).heap[q]? = wr.heap[q]? := fun q hq => Below.heap_alloc wr _ q hq
  refine ⟨_, rfl, h7.alloc h7.size _, h7.size, hg, h50, .slice (some ⟨W.heap.size, 0, none⟩) ls.length ls.length, sk, h7.size, Box.new _ _ _, ?_, ?_, h5.keep fun s hs q hq hB hl => ⟨hal q hl, hB⟩, h6⟩
  · refine RowK.mk (h2.alloc _) (by simpa using h1) (Nat.zero_le _) (Nat.le_refl _) (by unfold maxLen; omega) (by simpa using h3) (fun q hq => ?_) (fun u hu => ?_)
    · exact h4 q (by simpa using hq)
    · obtain ⟨i, hi, rfl⟩ := List.getElem_of_mem hu
      obtain ⟨s, e, hrow, _⟩ := h5.get i (by omega)
      rw [List.getElem?_eq_getElem hi] at e
      obtain rfl := Option.some.inj e
      exact rowk_one hrow
  · intro q hq
    have : W.heap.size = q := by simpa [Value.ownBlock] using hq
    show W.heap.size ≤ q
    omega

set_option maxHeartbeats 4000000 in
set_option maxRecDepth 100000 in
theorem tclone_any {B : Nat → Prop} {W : World} {t : Nat} {ls : List (List KV)} (h : TreeAt B W t ls) :
    Calls Try.prog 18 #[.pointer (some ⟨t, 0, none⟩)] W (CloneP W ls) := by
  obtain ⟨la, lc, hbx⟩ := h.box
  have hg := h.2.1
  have h50 := h.2.2.1
  have hls := Nat.le_trans (ls_le hg.1) h50
  obtain ⟨arr0, har, hmk⟩ := make_rows ls.length (by omega)
  have hc0 := hbx.cell 0
  have hc1 := hbx.cell 1
  simp only [List.getElem?_toArray, List.getElem?_cons_zero, List.getElem?_cons_succ] at hc0 hc1
  have htl := hbx.lt
  have hmk0 := hmk W
  have HC0 : Hid (Cl W ls (W.alloc (.cells arr0 65)) 0 arr0 []) := Lib.hid ⟨har, Box.new _ _ _, rfl, fun i hi => by omega, trivial, List.Pairwise.nil, (Below.refl _ W).alloc (Nat.le_refl _) _⟩
  have HD : Hid (∀ wr arr sk, Cl W ls wr ls.length arr sk → CloneP W ls (.returned (.pointer (some ⟨wr.heap.size, 0, none⟩))) (wr.alloc (.cells #[.slice (some ⟨W.heap.size, 0, none⟩) ls.length ls.length, .int .i64 (total ls)] 47))) := Lib.hid fun wr arr sk hc => hc.done hg h50
  have hq1 : (W.alloc (.cells arr0 65)).cell? ⟨t, 0, none⟩ = some (.slice la ls.length lc) := (Below.cell (p := ⟨t, 0, none⟩) ((Below.refl _ W).alloc (Nat.le_refl _) _) htl).trans hc0
  -- one leaf
  have HR : Hid (∀ wr k arr sk, k < ls.length → Cl W ls wr k arr sk → ∃ g n c rg, la = some ⟨rg, 0, none⟩ ∧ wr.cell? ⟨rg, k, none⟩ = some (.slice (some ⟨g, 0, none⟩) n c) ∧
      Calls Try.prog 31 #[.slice (some ⟨g, 0, none⟩) n c] wr fun e w' => ∃ va vn vc, e = .returned (.slice va vn vc) ∧ (w'.cell? ⟨W.heap.size, k, none⟩).isSome = true ∧ w'.frozen? ⟨W.heap.size, k, none⟩ = false ∧ Cl W ls (w'.setCell ⟨W.heap.size, k, none⟩ (.slice va vn vc)) (k + 1) (arr.setIfInBounds k (.slice va vn vc)) (sk ++ [.slice va vn vc])) := Lib.hid fun wr k arr sk hk hc => by
    have hne : ls ≠ [] := fun e => by rw [e] at hk; simp at hk
    have hT2 := h.below hc.2.2.2.2.2.2
    obtain ⟨_, _, _, rv, ss, ho⟩ := hT2
    have ho2 := ho
    obtain ⟨_, hb2, hr2, _, hl2, _⟩ := ho2
    have hbx2 : Box wr t 47 #[.slice la ls.length lc, .int .i64 (total ls)] := (hc.2.2.2.2.2.2.block t htl).trans hbx
    have e1 : rv = .slice la ls.length lc := by
      have h1 := hb2.cell 0
      have h2 := hbx2.cell 0
      rw [h1] at h2
      simpa using h2
    subst e1
    obtain ⟨rg, e2, _, _, hcells⟩ := hr2.at_ (List.length_pos_iff.2 hne)
    subst e2
    obtain ⟨s, e, hrow, _⟩ := hl2.get k hk
    obtain ⟨a, c, rfl, hc3, hc4⟩ := hrow.form
    have hp := List.length_pos_iff.2 (hg.1 _ (List.getElem_mem hk))
    obtain ⟨g, rfl, _, hlt2, hcells2⟩ := hrow.at_ hp
    refine ⟨g, _, c, rg, rfl, hcells _ _ e, ?_⟩
    refine (tIc.clone_any (w := wr) (b := g) (off := 0) (n := (ls[k]).length) (c := c) (cs := ecells ls[k]) hp (by have := leaf_le (List.getElem_mem hk); omega) hlt2 (ecells_length _) (fun j u hj => by rw [Nat.zero_add]; exact hcells2 j u hj) hrow.2).mono ?_
    rintro e' w' ⟨v, rfl, hv, hb⟩
    have hR2 := hc.2.1
    have hR3 : Box w' W.heap.size 65 arr := (hb.block _ hR2.lt).trans hR2
    obtain ⟨va, vc, rfl, _⟩ := hv.form
    exact ⟨_, _, _, rfl, by rw [hR3.cell k, Array.getElem?_eq_getElem (by rw [hc.1]; exact hk)]; rfl, hR3.free k, hc.next hk hv hb⟩
  have HK : Hid (∀ wr k arr sk, Cl W ls wr k arr sk → wr.cell? ⟨t, 1, none⟩ = some (.int .i64 (total ls))) := Lib.hid fun wr k arr sk hc => (hc.2.2.2.2.2.2.cell (p := ⟨t, 1, none⟩) htl).trans hc1
  obtain ⟨n, hn⟩ : ∃ n, n = ls.length := ⟨_, rfl⟩
  obtain ⟨P, hP⟩ : ∃ P, P = CloneP W ls := ⟨_, rfl⟩
  obtain ⟨z, hz⟩ : ∃ z, z = total ls := ⟨_, rfl⟩
  obtain ⟨R, hRR⟩ : ∃ R, R = Cl W ls := ⟨_, rfl⟩
  rw [← hRR] at HC0
  simp only [← hn, ← hP, ← hz, ← hRR] at HD HR HK hc0 hc1 hls hq1 ⊢
  rw [← hn] at hmk0
  clear hn hP hRR hbx h hg h50 har hmk hz
  go_enter Try.func18, Try.ntmps18
  go_wp2_with fail
  go_loopw [19] (fun i wr => ∃ k arr sk, k ≤ n ∧ i = .int .i64 (k : Int) ∧ Hid (R wr k arr sk)) (fun i _ => n - (intOf i).toNat)
  case atStart => exact ⟨0, arr0, [], Nat.zero_le _, rfl, HC0⟩
  case round =>
    obtain ⟨k, arr, sk, hk, rfl, hr⟩ := hrel
    by_cases hlt : k < n
    · obtain ⟨g, m, c, rg, rfl, hcell, hcl⟩ := HR.out wr k arr sk hlt hr.out
      have HCL := Lib.hid hcl
      clear hcl HR
      go_wp2_with fail
      refine HCL.out.mono ?_
      rintro e w' ⟨va, vn, vc, rfl, y1, y2, hN⟩
      obtain ⟨y4, y5⟩ := Option.isSome_iff_exists.1 y1
      have HN := Lib.hid hN
      clear hN y1 HCL
      go_wp2
      go_roundw
      case rel => exact ⟨k + 1, _, _, by omega, by simp, HN⟩
      case measure => simp [intOf]; omega
    · obtain rfl : k = n := by omega
      have hz1 := HK.out wr _ arr sk hr.out
      have HF := Lib.hid (HD.out wr arr sk hr.out)
      go_wp2
      exact HF.out

end Go.Proofs.Ytkohmiegkebmeaa.tI
