/-
  What watch's begun asks of a write: whether its key begins so; the first one that doesn't.
  slices.DeleteFunc of writes whose keys don't begin so, in a row that the call owns.
  watch.begun: those of the writes whose keys begin so, laid into the same row.
  store.Since once more: the commits' writes lie each in a block of its own (made from StSi by genwtsi.py).
  watch.Poll, plainly; what a round of its loop leaves.
  watch.Poll: the ends of a round.
  watch.Poll, where there is something to look at: its walk.
  watch.Poll, where there is something to look at: its walk.
  watch.Poll: its two errors.
-/
import Derived.Test.YtookplnegfheeaaSC
import Derived.Test.YtookplnegfheeaaSD
import Derived.Test.YtookplnegfheeaaStSi
import Derived.WalkMore
section
namespace Go.Proofs.Ytookplnegfheeaa.wT
open Go.RowKit Go.Proofs.Ytookplnegfheeaa.tC Go.Proofs.Ytookplnegfheeaa.sT

set_option linter.unusedVariables false
set_option linter.unusedSimpArgs false

/-- does a text begin so? -/
def preB (p k : ByteArray) : Bool := decide (p.size ≤ k.size) && ((k.extract 0 p.size).toList == p.toList)

set_option maxRecDepth 100000 in
theorem lite_any (k p : ByteArray) (w : World) : Calls Try.prog 122 #[.string k, .string p] w fun e w' => e = .returned (.bool (preB p k)) ∧ w = w' := by
  by_cases h : p.size ≤ k.size
  · have hI : (p.size : Int) ≤ (k.size : Int) := by omega
    have hp : Hid (preB p k = ((k.extract 0 p.size).toList == p.toList)) := Lib.hid (by unfold preB; rw [decide_eq_true h]; rfl)
    go_enter Try.func122, Try.ntmps122
    go_wp2
    go_ret
    exact ⟨by rw [hp.out]; rfl, rfl⟩
  · have hI : ((p.size : Int) ≤ (k.size : Int)) = False := eq_false (by omega)
    have hp : Hid (preB p k = false) := Lib.hid (by unfold preB; rw [decide_eq_false h]; rfl)
    clear h
    go_enter Try.func122, Try.ntmps122
    go_wp2
    go_ret
    exact ⟨by rw [hp.out]; rfl, rfl⟩
theorem hasPrefix_any (k p : ByteArray) (w : World) : Calls Try.prog 96 #[.string k, .string p] w fun e w' => e = .returned (.bool (preB p k)) ∧ w = w' := by
  go_enter Try.func96, Try.ntmps96
  go_wp2_with fail
  refine (lite_any k p _).mono ?_
  rintro e w1 ⟨rfl, rfl⟩
  go_wp2
  go_ret
  exact ⟨rfl, rfl⟩

/-- the closure: what doesn't begin so -/
theorem begun1_any (x : Wr) (p : ByteArray) (bp : Nat) (w : World) (hp : w.cell? ⟨bp, 0, none⟩ = some (.string p)) (hlt : bp < w.heap.size) :
    Calls Try.prog 95 #[.agg #[.string x.key, .string x.val, .bool x.gone], .pointer (some ⟨bp, 0, none⟩)] w fun e w' => e = .returned (.bool (!preB p x.key)) ∧ Below w.heap.size w w' := by
  obtain ⟨k, v, g⟩ := x
  have hp2 : (w.alloc (.cells #[.string k, .string v, .bool g] 81)).cell? ⟨bp, 0, none⟩ = some (.string p) := (((Below.refl _ w).alloc (Nat.le_refl _) (.cells #[.string k, .string v, .bool g] 81)).cell (p := ⟨bp, 0, none⟩) hlt).trans hp
  go_enter Try.func95, Try.ntmps95
  go_wp2_with fail
  refine (hasPrefix_any k p _).mono ?_
  rintro e w1 ⟨rfl, rfl⟩
  go_wp2
  go_ret
  exact ⟨rfl, (Below.refl _ _).alloc (Nat.le_refl _) _⟩

/-- the place of the first one that doesn't begin so -/
def firstI (p : ByteArray) (ws : List Wr) (e : Ending) : Prop :=
  (e = .returned (.int .i64 (-1)) ∧ ∀ i (h : i < ws.length), preB p (ws[i]).key = true) ∨
  ∃ k : Nat, e = .returned (.int .i64 (k : Int)) ∧ ∃ hk : k < ws.length, preB p (ws[k]).key = false ∧ ∀ i (h : i < ws.length), i < k → preB p (ws[i]).key = true

set_option maxHeartbeats 1000000 in
set_option maxRecDepth 100000 in
theorem indexP_any {W : World} {a : Option Addr} {len cap : Nat} {ws : List Wr} (h : WrsIs W a ws) (hl : ws.length = len) (hle : len ≤ 1000000) (p : ByteArray) (bp : Nat) (hp : W.cell? ⟨bp, 0, none⟩ = some (.string p)) (hlt : bp < W.heap.size) :
    Calls Try.prog 107 #[.slice a len cap, .func (.func 95) #[] #[.pointer (some ⟨bp, 0, none⟩)]] W fun e w' => firstI p ws e ∧ Below W.heap.size W w' := by
  subst hl
  have HW := Lib.hid h
  have HP := Lib.hid (And.intro hp hlt)
  clear h hp hlt
  go_enter Try.func107, Try.ntmps107
  go_wp2_with fail
  go_loopw [8] (fun iv wr => ∃ z : Nat, z ≤ ws.length ∧ iv = .int .i64 (z : Int) ∧ Hid (Below W.heap.size W wr ∧ ∀ i (h : i < ws.length), i < z → preB p (ws[i]).key = true)) (fun iv _ => ws.length - (intOf iv).toNat)
  case atStart => exact ⟨0, Nat.zero_le _, rfl, Lib.hid ⟨Below.refl _ _, fun i _ h => by omega⟩⟩
  case round =>
    obtain ⟨z, hz, rfl, hst⟩ := hrel
    by_cases hzl : z < ws.length
    · have hzI : (z : Int) < (ws.length : Int) := by omega
      obtain ⟨b, off, rfl, hblt, ⟨k0, k1, k2⟩, _⟩ := (HW.out.below hst.out.1).at_ z hzl
      have HN := Lib.hid hst.out
      obtain ⟨x, hx⟩ : ∃ x, x = ws[z] := ⟨_, rfl⟩
      rw [← hx] at k0 k1 k2
      have hi := begun1_any x p bp wr ((HN.out.1.cell (p := ⟨bp, 0, none⟩) HP.out.2).trans HP.out.1) (Nat.lt_of_lt_of_le HP.out.2 HN.out.1.size)
      have HX := Lib.hid hx
      obtain ⟨xk, xv, xg⟩ := x
      simp only at k0 k1 k2 hi
      obtain ⟨r, hr⟩ : ∃ r, r = preB p xk := ⟨_, rfl⟩
      rw [← hr] at hi
      have HR0 : Hid (preB p (ws[z]).key = r) := Lib.hid (by rw [← HX.out, hr])
      have HI := Lib.hid hi
      clear hx hst hr hi
      go_wp2_with fail
      refine HI.out.mono ?_
      rintro e w2 ⟨rfl, hb⟩
      have HB := Lib.hid (HN.out.1.trans (hb.mono HN.out.1.size))
      clear hb HI
      cases r
      · have HF : Hid (firstI p ws (.returned (.int .i64 (z : Int)))) := Lib.hid (.inr ⟨z, rfl, hzl, HR0.out, HN.out.2⟩)
        go_wp2
        go_ret
        exact ⟨HF.out, HB.out⟩
      · have HR : Hid (∀ i (h : i < ws.length), i < z + 1 → preB p (ws[i]).key = true) := Lib.hid fun i h hi => by
          by_cases e : i = z
          · subst e; exact HR0.out
          · exact HN.out.2 i h (by omega)
        go_wp2_with fail
        go_roundw
        case rel => exact ⟨z + 1, by omega, by go_num, Lib.hid ⟨HB.out, HR.out⟩⟩
        case measure => simp [intOf]; omega
    · obtain rfl : z = ws.length := by omega
      have hzI : ¬ (ws.length : Int) < (ws.length : Int) := by omega
      have HF : Hid (firstI p ws (.returned (.int .i64 (-1)))) := Lib.hid (.inl ⟨rfl, fun i h => hst.out.2 i h h⟩)
      have HB := Lib.hid hst.out.1
      clear hst hzl hz
      go_wp2
      go_ret
      exact ⟨HF.out, HB.out⟩

end Go.Proofs.Ytookplnegfheeaa.wT
end

section
namespace Go.Proofs.Ytookplnegfheeaa.wT
open Go.RowKit Go.Proofs.Ytookplnegfheeaa.tC Go.Proofs.Ytookplnegfheeaa.sT

set_option linter.unusedVariables false
set_option linter.unusedSimpArgs false

/-- the writes whose keys begin so -/
def begF (p : ByteArray) (ws : List Wr) : List Wr := ws.filter fun w => preB p w.key
theorem begF_len (p : ByteArray) (ws : List Wr) : (begF p ws).length ≤ ws.length := List.length_filter_le _ _
theorem begF_next {p : ByteArray} {ws : List Wr} {j : Nat} (h : j < ws.length) : begF p (ws.take (j + 1)) = begF p (ws.take j) ++ if preB p (ws[j]).key then [ws[j]] else [] := by
  unfold begF
  rw [List.take_succ_eq_append_getElem h, List.filter_append]
  congr 1
  cases hp : preB p (ws[j]).key <;> simp [hp]
theorem begF_all {p : ByteArray} {ws : List Wr} (h : ∀ i (h : i < ws.length), preB p (ws[i]).key = true) : begF p ws = ws := by
  unfold begF
  rw [List.filter_eq_self]
  intro x hx
  obtain ⟨i, hi, rfl⟩ := List.getElem_of_mem hx
  exact h i hi

structure DelI (W wr : World) (g c : Nat) (p : ByteArray) (ws : List Wr) (j i : Nat) : Prop where
  grown : W.grownBy wr (some g)
  box : ∃ arr, Box wr g 81 arr ∧ arr.size = c * 3 ∧ (∀ q, q < i * 3 → arr[q]? = ((begF p (ws.take j)).flatMap wrcells)[q]?) ∧ ∀ q, j * 3 ≤ q → q < ws.length * 3 → arr[q]? = (ws.flatMap wrcells)[q]?
  eq : i = (begF p (ws.take j)).length
  le : i ≤ j
theorem DelI.at_ {W wr : World} {g c : Nat} {p : ByteArray} {ws : List Wr} {j i : Nat} (h : DelI W wr g c p ws j i) (hj : j < ws.length) : wr.cell? ⟨g, j * 3, none⟩ = some (.string (ws[j]).key) ∧ wr.cell? ⟨g, j * 3 + 1, none⟩ = some (.string (ws[j]).val) ∧ wr.cell? ⟨g, j * 3 + 2, none⟩ = some (.bool (ws[j]).gone) := by
  obtain ⟨arr, h1, _, _, h2⟩ := h.box
  have e : ∀ t, t < 3 → wr.cell? ⟨g, j * 3 + t, none⟩ = (wrcells (ws[j]))[t]? := fun t ht => by
    rw [h1.cell, h2 _ (by omega) (by omega), wrow_get ws j hj t ht]
  exact ⟨e 0 (by omega), e 1 (by omega), e 2 (by omega)⟩
theorem DelI.low {W wr w2 : World} {g c : Nat} {p : ByteArray} {ws : List Wr} {j i : Nat} (h : DelI W wr g c p ws j i) (hb : Below wr.heap.size wr w2) : DelI W w2 g c p ws j i := by
  obtain ⟨h1, ⟨arr, h2, h3⟩, h4, h5⟩ := h
  exact ⟨h1.trans ((below_grown hb).but (some g)), ⟨arr, (hb.block g h2.lt).trans h2, h3⟩, h4, h5⟩
theorem DelI.skip {W wr : World} {g c : Nat} {p : ByteArray} {ws : List Wr} {j i : Nat} (h : DelI W wr g c p ws j i) (hj : j < ws.length) (hp : preB p (ws[j]).key = false) : DelI W wr g c p ws (j + 1) i := by
  obtain ⟨h1, ⟨arr, h2, h3, h6, h7⟩, h4, h5⟩ := h
  have e : begF p (ws.take (j + 1)) = begF p (ws.take j) := by rw [begF_next hj, hp]; simp
  exact ⟨h1, ⟨arr, h2, h3, by rw [e]; exact h6, fun q q1 q2 => h7 q (by omega) q2⟩, by rw [e]; exact h4, by omega⟩
theorem DelI.keep {W wr : World} {g c : Nat} {p : ByteArray} {ws : List Wr} {j i : Nat} (h : DelI W wr g c p ws j i) (hj : j < ws.length) (hc : ws.length ≤ c) (hp : preB p (ws[j]).key = true) : DelI W (sets wr g (i * 3) (wrcells (ws[j]))) g c p ws (j + 1) (i + 1) := by
  obtain ⟨h1, ⟨arr, h2, h3, h6, h7⟩, h4, h5⟩ := h
  have e : begF p (ws.take (j + 1)) = begF p (ws.take j) ++ [ws[j]] := by rw [begF_next hj, hp]; simp
  have hl : (wrcells (ws[j])).length = 3 := rfl
  have hb := Below.sets (B := 0) (wrcells (ws[j])) (i * 3) (Below.refl 0 wr) (Nat.zero_le g)
  refine ⟨⟨hb.os.trans h1.os, hb.tape.trans h1.tape, hb.output.trans h1.output, by rw [sets_size]; exact h1.size, fun k hk hne => ?_⟩, ⟨_, h2.sets _ _, by rw [aset_size, h3], fun q hq => ?_, fun q q1 q2 => ?_⟩, by rw [e, List.length_append, ← h4]; rfl, by omega⟩
  · rw [sets_far _ _ _ _ fun e => hne (by rw [e])]
    exact h1.block k hk hne
  · rw [e, List.flatMap_append]
    by_cases hq2 : q < i * 3
    · rw [aset_far _ _ _ _ (.inl hq2), List.getElem?_append_left (by rw [wrow_len, ← h4]; exact hq2)]
      exact h6 q hq2
    · rw [List.getElem?_append_right (by rw [wrow_len, ← h4]; omega), wrow_len, ← h4]
      have hq3 : q - i * 3 < 3 := by omega
      have := aset_get (wrcells (ws[j])) arr (i * 3) (by rw [h3, hl]; omega) (q - i * 3) _ (List.getElem?_eq_getElem (by rw [hl]; exact hq3))
      rw [show i * 3 + (q - i * 3) = q by omega] at this
      rw [this, List.flatMap_cons, List.flatMap_nil, List.append_nil, List.getElem?_eq_getElem (by rw [hl]; exact hq3)]
  · rw [aset_far _ _ _ _ (.inr (by rw [hl]; omega))]
    exact h7 q (by omega) q2

/-- what DeleteFunc answers -/
def DelP (n0 : Nat) (W : World) (a : Option Addr) (c : Nat) (p : ByteArray) (ws : List Wr) (e : Ending) (W' : World) : Prop :=
  e = .returned (.slice a (begF p ws).length c) ∧ RowK 81 3 n0 W' (.slice a (begF p ws).length c) (begF p ws).length ((begF p ws).flatMap wrcells) ∧ W.grownBy W' (Value.slice a ws.length c).ownBlock

theorem del_end {n0 : Nat} {W wr : World} {g c : Nat} {p : ByteArray} {ws : List Wr} {i : Nat} (h : DelI W wr g c p ws ws.length i) (hn0 : n0 ≤ g) (hc : ws.length ≤ c) (hm : c ≤ maxLen) (zs : List Value) :
    DelP n0 W (some ⟨g, 0, none⟩) c p ws (.returned (.slice (some ⟨g, 0, none⟩) i c)) (sets wr g (i * 3) zs) := by
  obtain ⟨h1, ⟨arr, h2, h3, h6, _⟩, h4, h5⟩ := h
  rw [List.take_length] at h4 h6
  have hb := Below.sets (B := 0) zs (i * 3) (Below.refl 0 wr) (Nat.zero_le g)
  refine ⟨by rw [h4], ?_, ⟨hb.os.trans h1.os, hb.tape.trans h1.tape, hb.output.trans h1.output, by rw [sets_size]; exact h1.size, fun k hk hne => ?_⟩⟩
  · refine RowK.mk (h2.sets zs (i * 3)) (by rw [aset_size, h3]) hn0 (by have := begF_len p ws; omega) hm (wrow_len _) (fun q hq => ?_) (wrow_one _)
    rw [aset_far _ _ _ _ (.inl (by rw [h4]; exact hq))]
    exact h6 q (by rw [h4]; exact hq)
  · rw [sets_far _ _ _ _ fun e => hne (by rw [e]; rfl)]
    exact h1.block k hk hne

theorem wr_slice (g n c i : Nat) (hi : i < n) (hn : n ≤ c) (hc : c ≤ maxLen) :
    (∀ W, (Instr.slice 22 (.slice (some ⟨g, 0, none⟩) n c) none (some (.int .i64 (i : Int))) none).run Try.prog W = .ok (.slice (some ⟨g, 0, none⟩) i c) W) ∧
    (∀ W, (Instr.slice 22 (.slice (some ⟨g, 0, none⟩) n c) (some (.int .i64 (i : Int))) none none).run Try.prog W = .ok (.slice (some ⟨g, i * 3, none⟩) (n - i) (c - i)) W) := by
  have h0 : (i : Int) ≤ (n : Int) := by omega
  have h1 : (i : Int) ≤ (c : Int) := by omega
  have h2 : (n : Int) ≤ (c : Int) := by omega
  have h3 : ¬ c = i := by omega
  refine ⟨fun W => by go_simp, fun W => ?_⟩
  go_simp

theorem wr_clear {wr : World} {g c n i : Nat} {arr : Array Value} (hb : Box wr g 81 arr) (hs : arr.size = c * 3) (hi : i < n) (hn : n ≤ c) : ∃ zs, ∀ ty, (Builtin.clear_ #[22] ty #[.slice (some ⟨g, i * 3, none⟩) (n - i) (c - i)]).run Try.prog wr = .ok (.tuple #[]) (sets wr g (i * 3) zs) := by
  obtain ⟨zs, hzs⟩ : ∃ zs, zs = (Builtin.zeroCells (Value.cells (.agg #[.string ⟨#[]⟩, .string ⟨#[]⟩, .bool false])) (n - i)).toList := ⟨_, rfl⟩
  have hK : (Value.cells (.agg #[.string ⟨#[]⟩, .string ⟨#[]⟩, .bool false])).size = 3 := rfl
  refine ⟨zs, fun ty => ?_⟩
  rw [← setCells_sets, hzs]
  refine tCEd.run_clearK wr _ _ ty _ Try.underlying22 Try.zeroValue81 (by decide) g (i * 3) (n - i) (c - i) (by omega) (fun j hj => ?_) (fun j hj => hb.free _)
  rw [hK] at hj
  rw [hb.cell, Array.getElem?_eq_getElem (by omega)]
  rfl

set_option maxHeartbeats 4000000 in
set_option maxRecDepth 100000 in
theorem deleteP_any {n0 : Nat} {W : World} {a : Option Addr} {n c : Nat} {ws : List Wr} (h : RowK 81 3 n0 W (.slice a n c) n (ws.flatMap wrcells)) (hl : ws.length = n) (hle : n ≤ 1000000) (p : ByteArray) (bp : Nat) (hp : W.cell? ⟨bp, 0, none⟩ = some (.string p)) (hlt : bp < W.heap.size) (hne : (Value.slice a n c).ownBlock ≠ some bp) :
    Calls Try.prog 94 #[.slice a n c, .func (.func 95) #[] #[.pointer (some ⟨bp, 0, none⟩)]] W (DelP n0 W a c p ws) := by
  have hIX := indexP_any (cap := c) (wrs_at_row (by rw [← hl] at h; exact h)) hl hle p bp hp hlt
  have HIX := Lib.hid hIX
  clear hIX
  obtain ⟨Q, hQ⟩ : ∃ Q, Q = DelP n0 W a c p ws := ⟨_, rfl⟩
  rw [← hQ]
  have HQ := Lib.hid hQ
  have HP := Lib.hid (And.intro hp (And.intro hlt hne))
  have HR := Lib.hid h
  have HLN := Lib.hid hl
  clear hQ hp hlt hne h hl
  go_enter Try.func94, Try.ntmps94
  go_wp2_with fail
  refine HIX.out.mono ?_
  rintro e w1 ⟨hfi, hb1⟩
  have HB1 := Lib.hid hb1
  clear hb1 HIX
  rcases hfi with ⟨rfl, hall⟩ | ⟨k, rfl, hk, hkp, hkl⟩
  · have HF : Hid (Q (.returned (.slice a n c)) w1) := Lib.hid (by
      have h1 := HR.out
      have h2 := HLN.out
      have e : begF p ws = ws := begF_all hall
      rw [HQ.out]
      unfold DelP
      rw [e]
      rw [← h2] at h1 ⊢
      exact ⟨rfl, h1.below HB1.out, (below_grown HB1.out).but _⟩)
    clear hall HQ HR HLN
    go_wp2
    first | exact HF.out | (refine bodyPost_ret (v := .slice a n c) (by simp [results, Try.results94, go_sem]) rfl HF.out)
  · obtain ⟨g, rfl⟩ : ∃ g, a = some ⟨g, 0, none⟩ := by
      have h2 := HLN.out
      rcases HR.out.1.2 with ⟨e, h0⟩ | ⟨g, cap, cur, e, _⟩
      · omega
      · injection e with e1 _ _
        exact ⟨g, e1⟩
    obtain ⟨arr, hbx, hs, hB, hnc, hcm, hq⟩ := HR.out.parts
    have hgl : g < W.heap.size := hbx.lt
    have hgb : bp ≠ g := fun e => HP.out.2.2 (by rw [e]; rfl)
    have HN := Lib.hid (And.intro hnc (And.intro hcm (And.intro hB hgb)))
    have hlen := HLN.out
    have hkw2 : ((k : Int) == -1) = false := by rw [beq_eq_false_iff_ne]; omega
    have H0 : Hid (DelI W w1 g c p ws (k + 1) k) := Lib.hid (by
      have h0 : DelI W W g c p ws k k := by
        have e : begF p (ws.take k) = ws.take k := begF_all fun i hi => by
          rw [List.length_take] at hi
          rw [List.getElem_take]
          exact hkl i (by omega) (by omega)
        refine ⟨World.grownBy.refl W _, ⟨arr, hbx, hs, fun q q1 => ?_, fun q _ q2 => hq q (by rw [← hlen]; exact q2)⟩, by rw [e, List.length_take]; omega, Nat.le_refl _⟩
        rw [hq q (by omega), e]
        have e2 : ws.flatMap wrcells = (ws.take k).flatMap wrcells ++ (ws.drop k).flatMap wrcells := by rw [← List.flatMap_append, List.take_append_drop]
        rw [e2, List.getElem?_append_left (by rw [wrow_len, List.length_take]; omega)]
      exact (h0.low HB1.out).skip hk hkp)
    have hk1 : k + 1 ≤ n := by omega
    clear hkl hkp hbx hs hq hB hnc hcm hgb HB1 HR hgl arr
    go_wp2_with fail
    go_loopw [5, 6] (fun iv jv wr => ∃ i j : Nat, i < j ∧ j ≤ n ∧ iv = .int .i64 (i : Int) ∧ jv = .int .i64 (j : Int) ∧ Hid (DelI W wr g c p ws j i)) (fun _ jv _ => n - (intOf jv).toNat)
    case atStart => exact ⟨k, k + 1, by omega, hk1, by go_num, by go_num, H0⟩
    case round =>
      obtain ⟨i, j, hij, hjn, rfl, rfl, hst⟩ := hrel
      clear H0
      by_cases hjl : j < n
      · have hjI : (j : Int) < (n : Int) := by omega
        have hiI : (i : Int) < (n : Int) := by omega
        have hjw : j < ws.length := by omega
        obtain ⟨m0, m1, m2⟩ := hst.out.at_ hjw
        have hbA : ∀ ob, Below wr.heap.size wr (wr.alloc ob) := fun ob => (Below.refl _ _).alloc (Nat.le_refl _) _
        obtain ⟨x, hx⟩ : ∃ x, x = ws[j] := ⟨_, rfl⟩
        rw [← hx] at m0 m1 m2
        have hcb : ∀ ob, (wr.alloc ob).cell? ⟨bp, 0, none⟩ = some (.string p) ∧ bp < (wr.alloc ob).heap.size := fun ob => by
          have h1 := (hst.out.low (hbA ob)).grown
          exact ⟨(h1.cell_far ⟨bp, 0, none⟩ HP.out.2.1 (by simpa using HN.out.2.2.2)).trans HP.out.1, Nat.lt_of_lt_of_le HP.out.2.1 h1.size⟩
        have hcall := fun ob => begun1_any x p bp (wr.alloc ob) (hcb ob).1 (hcb ob).2
        obtain ⟨r, hr⟩ : ∃ r, r = preB p x.key := ⟨_, rfl⟩
        have HPR : Hid (preB p (ws[j]).key = r) := Lib.hid (by rw [hr, hx])
        rw [← hr] at hcall
        have HX := Lib.hid hx
        clear hx hr hcb
        obtain ⟨xk, xv, xg⟩ := x
        simp only at m0 m1 m2 hcall
        have HCL := Lib.hid (hcall (.cells #[.string xk, .string xv, .bool xg] 81))
        have HBA := Lib.hid (hbA (.cells #[.string xk, .string xv, .bool xg] 81))
        clear hcall hbA
        go_wp2_with fail
        refine HCL.out.mono ?_
        rintro e w2 ⟨rfl, hb2⟩
        have h2 := hst.out.low (HBA.out.trans (hb2.mono HBA.out.size))
        have hbx2 : Box w2 wr.heap.size 81 #[.string xk, .string xv, .bool xg] := by
          have hb0 := Box.new wr 81 #[.string xk, .string xv, .bool xg]
          exact (hb2.block _ hb0.lt).trans hb0
        have y0 := hbx2.cell 0
        have y1 := hbx2.cell 1
        have y2 := hbx2.cell 2
        simp only [List.getElem?_toArray, List.getElem?_cons_zero, List.getElem?_cons_succ] at y0 y1 y2
        clear hbx2 hb2 HCL HBA m0 m1 m2
        cases r
        · have HN2 : Hid (DelI W w2 g c p ws (j + 1) i) := Lib.hid (h2.skip hjw HPR.out)
          clear h2 hst
          go_wp2_with fail
          go_roundw
          case rel => exact ⟨i, j + 1, by omega, by omega, rfl, by go_num, HN2⟩
          case measure => simp [intOf]; omega
        · have HN2 : Hid (DelI W (((w2.setCell ⟨g, i * 3, none⟩ (.string xk)).setCell ⟨g, i * 3 + 1, none⟩ (.string xv)).setCell ⟨g, i * 3 + 2, none⟩ (.bool xg)) g c p ws (j + 1) (i + 1)) := Lib.hid (by
            have h3 := h2.keep hjw (by have := HN.out.1; omega) HPR.out
            rw [← HX.out] at h3
            exact h3)
          have hfree : (∃ z0, w2.cell? ⟨g, i * 3, none⟩ = some z0) ∧ (∃ z1, w2.cell? ⟨g, i * 3 + 1, none⟩ = some z1) ∧ (∃ z2, w2.cell? ⟨g, i * 3 + 2, none⟩ = some z2) ∧ w2.frozen? ⟨g, i * 3, none⟩ = false ∧ w2.frozen? ⟨g, i * 3 + 1, none⟩ = false ∧ w2.frozen? ⟨g, i * 3 + 2, none⟩ = false := by
            obtain ⟨arr, hb, hs, _⟩ := h2.box
            have := HN.out.1
            exact ⟨⟨_, by rw [hb.cell, Array.getElem?_eq_getElem (by omega)]⟩, ⟨_, by rw [hb.cell, Array.getElem?_eq_getElem (by omega)]⟩, ⟨_, by rw [hb.cell, Array.getElem?_eq_getElem (by omega)]⟩, hb.free _, hb.free _, hb.free _⟩
          obtain ⟨⟨z0, e0⟩, ⟨z1, e1⟩, ⟨z2, e2⟩, g0, g1, g2⟩ := hfree
          clear h2 hst
          go_wp2_with fail
          go_roundw
          case rel => exact ⟨i + 1, j + 1, by omega, by omega, by go_num, by go_num, HN2⟩
          case measure => simp [intOf]; omega
      · obtain rfl : j = n := by omega
        have hjI : ¬ ((j : Int) < (j : Int)) := by omega
        obtain ⟨arr, hb, hs, _⟩ := hst.out.box
        obtain ⟨s1, s2⟩ := wr_slice g j c i hij HN.out.1 HN.out.2.1
        obtain ⟨zs, hclr⟩ := wr_clear hb hs hij HN.out.1
        have HF : Hid (Q (.returned (.slice (some ⟨g, 0, none⟩) i c)) (sets wr g (i * 3) zs)) := Lib.hid (by
          have h1 := hst.out
          rw [HQ.out]
          have h2 := HLN.out
          rw [← h2] at h1
          exact del_end h1 HN.out.2.2.1 (by have := HN.out.1; omega) HN.out.2.1 zs)
        obtain ⟨W3, hW3⟩ : ∃ W3, W3 = sets wr g (i * 3) zs := ⟨_, rfl⟩
        rw [← hW3] at hclr HF
        clear hW3 hb hs hst HQ HLN HN
        go_wp2
        first | exact HF.out | (refine bodyPost_ret (v := .slice (some ⟨g, 0, none⟩) i c) (by simp [results, Try.results94, go_sem]) rfl HF.out)

end Go.Proofs.Ytookplnegfheeaa.wT
end

section
namespace Go.Proofs.Ytookplnegfheeaa.wT
open Go.RowKit Go.Proofs.Ytookplnegfheeaa.tC Go.Proofs.Ytookplnegfheeaa.sT

set_option linter.unusedVariables false
set_option linter.unusedSimpArgs false

set_option maxRecDepth 100000 in
theorem begun_any {n0 : Nat} {W : World} {a : Option Addr} {n c : Nat} {ws : List Wr} (h : RowK 81 3 n0 W (.slice a n c) n (ws.flatMap wrcells)) (hl : ws.length = n) (hle : n ≤ 1000000) (p : ByteArray) :
    Calls Try.prog 69 #[.slice a n c, .string p] W (DelP n0 W a c p ws) := by
  have hbA : Below W.heap.size W (W.alloc (.cells #[.string p] 9)) := (Below.refl _ _).alloc (Nat.le_refl _) _
  have hbx := Box.new W 9 #[.string p]
  have hD := deleteP_any (c := c) (h.below hbA) hl hle p W.heap.size (hbx.cell 0) hbx.lt fun e => by
    have := (h.lt _ e).2
    omega
  have HD := Lib.hid hD
  have HF : Hid (∀ e W', DelP n0 (W.alloc (.cells #[.string p] 9)) a c p ws e W' → DelP n0 W a c p ws e W') := Lib.hid fun e W' ⟨h1, h2, h3⟩ => ⟨h1, h2, ((below_grown hbA).but _).trans h3⟩
  clear hD hbA hbx h hl
  obtain ⟨Q, hQ⟩ : ∃ Q, Q = DelP n0 W a c p ws := ⟨_, rfl⟩
  rw [← hQ] at HF ⊢
  clear hQ
  go_enter Try.func69, Try.ntmps69
  go_wp2_with fail
  refine HD.out.mono ?_
  rintro e W' hd
  have HQ := Lib.hid (HF.out e W' hd)
  obtain ⟨rfl, _, _⟩ := hd
  clear HF HD
  go_wp2
  first | exact HQ.out | (refine bodyPost_ret (v := .slice a (begF p ws).length c) (by simp [results, Try.results69, go_sem]) rfl HQ.out)

end Go.Proofs.Ytookplnegfheeaa.wT
end

section
namespace Go.Proofs.Ytookplnegfheeaa.wT
open Go.RowKit Go.Proofs.Ytookplnegfheeaa.tC Go.Proofs.Ytookplnegfheeaa.sT

set_option linter.unusedVariables false
set_option linter.unusedSimpArgs false

/-- rows in different blocks -/
def Far (wvs : List Value) : Prop := wvs.Pairwise fun u v => ∀ q, u.ownBlock = some q → v.ownBlock ≠ some q
theorem Far.snoc {wvs : List Value} (h : Far wvs) {v : Value} (hv : ∀ u ∈ wvs, ∀ q, u.ownBlock = some q → v.ownBlock ≠ some q) : Far (wvs ++ [v]) := by
  unfold Far
  rw [List.pairwise_append]
  exact ⟨h, List.pairwise_singleton _ _, fun u hu w hw => by rw [List.mem_singleton.1 hw]; exact hv u hu⟩
/-- commits that the call owns, their writes apart -/
def CmsFar (n0 : Nat) (W : World) (v : Value) (cs : List CmM) : Prop := ∃ wvs, RowK 43 3 n0 W v cs.length (cmrow wvs cs) ∧ CmsAt (fun q => n0 ≤ q) W wvs cs ∧ Far wvs
theorem cms_lt {B : Nat → Prop} {W : World} : ∀ {l : List Value} {cs : List CmM}, CmsAt B W l cs → ∀ u ∈ l, ∀ q, u.ownBlock = some q → q < W.heap.size
  | [], [], _, u, hu, _, _ => by simp at hu
  | [], _ :: _, h, _, _, _, _ => h.elim
  | _ :: _, [], h, _, _, _, _ => h.elim
  | v :: r, c :: t, ⟨h1, h2⟩, u, hu, q, hq => by
    rcases List.mem_cons.1 hu with rfl | hu
    · exact (h1.1.lt q hq).2
    · exact cms_lt h2 u hu q hq

/-- what Since answers -/
def SinceQ (W : World) (M : StM) (seq : Int) (e : Ending) (W' : World) : Prop := Below W.heap.size W W' ∧
  ((seq < (M.low : Int) ∧ e = .returned (.tuple #[.slice none 0 0, .int .i64 12])) ∨ ((M.low : Int) ≤ seq ∧ (M.last : Int) < seq ∧ e = .returned (.tuple #[.slice none 0 0, .int .i64 13])) ∨
    ∃ k : Nat, seq = ((M.low + k : Nat) : Int) ∧ k ≤ M.cms.length ∧ ∃ a c, e = .returned (.tuple #[.slice a (M.cms.length - k) c, .int .i64 0]) ∧ CmsFar W.heap.size W' (.slice a (M.cms.length - k) c) (M.cms.drop k))

/-- z commits copied -/
def SiJ (W : World) (g n : Nat) (cs : List CmM) (z : Nat) (wr : World) : Prop := Below W.heap.size W wr ∧ W.heap.size ≤ g ∧ ∃ arr wvs, Box wr g 43 arr ∧ arr.size = n * 3 ∧ (∀ q, q < z * 3 → arr[q]? = (cmrow wvs (cs.take z))[q]?) ∧ CmsAt (fun q => W.heap.size ≤ q) wr wvs (cs.take z) ∧ Far wvs

theorem sj_step {W wr : World} {g n : Nat} {cs : List CmM} {z : Nat} (h : SiJ W g n cs z wr) (hn : cs.length = n) (hz : z < cs.length) {w2 : World} {va : Option Addr} {vc : Nat} (hb : Below wr.heap.size wr w2) (hw : RowK 81 3 wr.heap.size w2 (.slice va (cs[z]).ws.length vc) (cs[z]).ws.length ((cs[z]).ws.flatMap wrcells)) :
    SiJ W g n cs (z + 1) (sets w2 g (z * 3) [.int .i64 (cs[z]).seq, .int .i64 (cs[z]).at_, .slice va (cs[z]).ws.length vc]) := by
  obtain ⟨h1, h2, arr, wvs, h3, h4, h5, h6, h7⟩ := h
  have hz1 := h1.size
  have hbx : Box w2 g 43 arr := (hb.block g h3.lt).trans h3
  have hlen := h6.len
  rw [List.length_take, Nat.min_eq_left (by omega)] at hlen
  have hfar : ∀ q, (∃ a2, Box w2 q 81 a2) → (sets w2 g (z * 3) [.int .i64 (cs[z]).seq, .int .i64 (cs[z]).at_, .slice va (cs[z]).ws.length vc]).heap[q]? = w2.heap[q]? := fun q hq => sets_far _ _ _ _ fun e => by
    obtain ⟨a2, hq⟩ := hq
    exact box_ne hq hbx (by decide) e
  refine ⟨Below.sets _ _ (h1.trans (hb.mono hz1)) h2, h2, _, wvs ++ [.slice va (cs[z]).ws.length vc], hbx.sets _ _, by rw [aset_size, h4], fun q hq => ?_, ?_, h7.snoc fun u hu q hq hq2 => by have h8 := cms_lt h6 u hu q hq; have h9 := (hw.lt q hq2).1; omega⟩
  · rw [List.take_succ_eq_append_getElem hz, cmrow_app _ _ _ _ (by rw [List.length_take, Nat.min_eq_left (by omega), hlen])]
    have hcl : (cmrow wvs (cs.take z)).length = z * 3 := by rw [cmrow_len _ _ (by rw [List.length_take, Nat.min_eq_left (by omega), hlen]), List.length_take, Nat.min_eq_left (by omega)]
    by_cases hq2 : q < z * 3
    · rw [aset_far _ _ _ _ (.inl hq2), List.getElem?_append_left (by omega)]
      exact h5 q hq2
    · rw [List.getElem?_append_right (by omega), hcl]
      have hq3 : q - z * 3 < 3 := by omega
      have := aset_get [.int .i64 (cs[z]).seq, .int .i64 (cs[z]).at_, .slice va (cs[z]).ws.length vc] arr (z * 3) (by rw [h4]; simp; omega) (q - z * 3) _ (List.getElem?_eq_getElem (by simpa using hq3))
      rw [show z * 3 + (q - z * 3) = q by omega] at this
      rw [this, List.getElem?_eq_getElem (by simpa using hq3)]
  · rw [List.take_succ_eq_append_getElem hz]
    refine CmsAt.append ⟨hw.keep fun q hq => ⟨hfar q (rowk_box hw hq), Nat.zero_le _⟩, fun q hq => Nat.le_trans hz1 (hw.lt q hq).1⟩ ?_
    have lt : ∀ {l : List Value} {cs : List CmM}, CmsAt (fun q => W.heap.size ≤ q) wr l cs → CmsAt (fun q => W.heap.size ≤ q ∧ q < wr.heap.size) wr l cs := fun {l cs} => by
      induction l generalizing cs with
      | nil => cases cs with
        | nil => exact fun _ => trivial
        | cons _ _ => exact fun h => h.elim
      | cons v r ih => cases cs with
        | nil => exact fun h => h.elim
        | cons c q => exact fun ⟨h1, h2⟩ => ⟨⟨h1.1, fun b hb => ⟨h1.2 b hb, (h1.1.lt b hb).2⟩⟩, ih h2⟩
    refine (lt h6).keepB fun q hq hbq => ⟨?_, hq.1⟩
    have e1 := hb.block q hq.2
    obtain ⟨a2, h9⟩ := hbq
    exact (hfar q ⟨a2, e1.trans h9⟩).trans e1

set_option maxHeartbeats 1000000 in
set_option maxRecDepth 100000 in
theorem sinceQ_any {P : Nat → Prop} {W : World} {s : Nat} {M : StM} (h0 : StoreAt P W s M) {N : Nat} (hg : SG M N) (hN : N ≤ 900000) (seq : Int) :
    Calls Try.prog 33 #[.pointer (some ⟨s, 0, none⟩), .int .i64 seq] W (SinceQ W M seq) := by
  have hL : Calls Try.prog 22 #[.pointer (some ⟨s, 0, none⟩)] W fun e w' => e = .returned (.int .i64 M.low) ∧ W = w' := low_any h0
  have HLA : Hid (∀ w', Below W.heap.size W w' → Calls Try.prog 23 #[.pointer (some ⟨s, 0, none⟩)] w' fun e w2 => e = .returned (.int .i64 M.last) ∧ Hid (Below W.heap.size W w2)) := Lib.hid fun w' hb => by
    refine (stLast_any (h0.below hb)).mono ?_
    rintro e w2 ⟨rfl, hb2⟩
    exact ⟨rfl, Lib.hid (hb.trans (hb2.mono hb.size))⟩
  have hsz : M.low + M.cms.length ≤ 1099511627776 := by obtain ⟨cv, wvs, ls, BT, BC, BM, h⟩ := h0; exact h.sz
  have hlast : M.last = M.low + M.cms.length := rfl
  have hcl : M.cms.length ≤ 900000 := by have := hg.cms; omega
  have HWS : Hid ((allW M.cms).length ≤ 900000) := Lib.hid (by have := hg.ws; omega)
  have HST : Hid (∀ w', Below W.heap.size W w' → ∃ ca cc, w'.cell? ⟨s, 0, none⟩ = some (.int .i64 M.low) ∧ w'.cell? ⟨s, 1, none⟩ = some (.slice ca M.cms.length cc) ∧ M.cms.length ≤ cc ∧ CIs w' ca M.cms ∧ s < w'.heap.size) := Lib.hid fun w' hb => by
    obtain ⟨cv, wvs, ls, BT, BC, BM, h⟩ := h0.below hb
    obtain ⟨r0, ⟨ca, cc, rfl, h2, h3⟩, r1⟩ := h.reads
    exact ⟨ca, cc, r0, r1, h2, cms_is h.cm h.ws, (h.bt s h.tree.1).2⟩
  by_cases h1 : seq < (M.low : Int)
  · have HF : Hid (SinceQ W M seq (.returned (.tuple #[.slice none 0 0, .int .i64 12])) W) := Lib.hid ⟨Below.refl _ _, .inl ⟨h1, rfl⟩⟩
    obtain ⟨Q, hQ⟩ : ∃ Q, Q = SinceQ W M seq := ⟨_, rfl⟩
    rw [← hQ] at HF ⊢
    clear hQ h0 hg HST HLA
    go_enter Try.func33, Try.ntmps33
    go_wp2_with fail
    refine hL.mono ?_
    rintro e w1 ⟨rfl, rfl⟩
    go_wp2
    first | exact HF.out | (refine bodyPost_ret (v := .tuple #[.slice none 0 0, .int .i64 12]) (by simp [results, Try.results33, go_sem]) rfl HF.out)
  · by_cases h2 : (M.last : Int) < seq
    · have HF : Hid (∀ w', Below W.heap.size W w' → SinceQ W M seq (.returned (.tuple #[.slice none 0 0, .int .i64 13])) w') := Lib.hid fun w' hb => ⟨hb, .inr (.inl ⟨by omega, h2, rfl⟩)⟩
      obtain ⟨Q, hQ⟩ : ∃ Q, Q = SinceQ W M seq := ⟨_, rfl⟩
      obtain ⟨la, hla⟩ : ∃ la, la = M.last := ⟨_, rfl⟩
      rw [← hla] at HLA h2
      rw [← hQ] at HF ⊢
      clear hQ h0 hg HST hlast hla
      go_enter Try.func33, Try.ntmps33
      go_wp2_with fail
      refine hL.mono ?_
      rintro e w1 ⟨rfl, rfl⟩
      go_wp2_with fail
      refine (HLA.out _ (Below.refl _ _)).mono ?_
      rintro e w1 ⟨rfl, hb⟩
      have HF2 := Lib.hid (HF.out w1 hb.out)
      clear hb HF
      go_wp2
      first | exact HF2.out | (refine bodyPost_ret (v := .tuple #[.slice none 0 0, .int .i64 13]) (by simp [results, Try.results33, go_sem]) rfl HF2.out)
    · obtain ⟨k, hk, hkl⟩ : ∃ k : Nat, seq = ((M.low + k : Nat) : Int) ∧ k ≤ M.cms.length := ⟨seq.toNat - M.low, by omega, by omega⟩
      obtain ⟨cs, hcs⟩ : ∃ cs, cs = M.cms.drop k := ⟨_, rfl⟩
      have hcsl : cs.length = M.cms.length - k := by rw [hcs, List.length_drop]
      obtain ⟨arr, harr, hmk⟩ := cm_make cs.length (by omega)
      have HF : Hid (∀ w' g, SiJ W g cs.length cs cs.length w' → SinceQ W M seq (.returned (.tuple #[.slice (some ⟨g, 0, none⟩) cs.length cs.length, .int .i64 0])) w') := Lib.hid fun w' g hS => by
        obtain ⟨k1, k2, arr, wvs, k3, k4, k5, k6, k7⟩ := hS
        rw [List.take_length] at k5 k6
        refine ⟨k1, .inr (.inr ⟨k, hk, hkl, some ⟨g, 0, none⟩, cs.length, by rw [hcsl], ?_⟩)⟩
        rw [← hcsl, ← hcs]
        have hcl2 := cmrow_len wvs cs k6.len
        refine ⟨wvs, RowK.mk k3 k4 k2 (Nat.le_refl _) (by unfold maxLen; omega) hcl2 k5 (fun u hu => ?_), k6, k7⟩
        have hone : ∀ (l : List Value) (cs : List CmM), CmsAt (fun q => W.heap.size ≤ q) w' l cs → ∀ u ∈ cmrow l cs, u.oneCell' = true := fun l => by
          induction l with
          | nil => intro cs h u hu; cases cs <;> simp [cmrow] at hu
          | cons v r ih => intro cs h u hu; cases cs with
            | nil => simp [cmrow] at hu
            | cons c q =>
              obtain ⟨⟨a1, c1, e1, _⟩, _⟩ := And.intro h.1.1.form trivial
              simp only [cmrow, List.mem_append] at hu
              rcases hu with hu | hu
              · simp at hu
                rcases hu with rfl | rfl | rfl
                · rfl
                · rfl
                · rw [e1]; rfl
              · exact ih q h.2 u hu
        exact hone wvs cs k6 u hu
      have HLB : Hid (∀ w', Below W.heap.size W w' → SiJ W w'.heap.size cs.length cs 0 (w'.alloc (.cells arr 43))) := Lib.hid fun w' hb => ⟨hb.alloc hb.size _, hb.size, arr, [], Box.new w' _ arr, harr, fun q hq => by omega, by simp [CmsAt], List.Pairwise.nil⟩
      have hw5 : IntKind.i64.wrap ((M.last : Int) - seq) = (cs.length : Int) := by rw [IntKind.wrap_i64]; omega
      have hw6 : IntKind.i64.wrap (seq - (M.low : Int)) = (k : Int) := by rw [IntKind.wrap_i64]; omega
      have hcsl2 : cs.length + k = M.cms.length := by omega
      have HEL : Hid (∀ z (h : z < cs.length), ∃ h2 : k + z < M.cms.length, M.cms[k + z] = cs[z]) := Lib.hid fun z h => ⟨by omega, by simp [hcs]⟩
      obtain ⟨Q, hQ⟩ : ∃ Q, Q = SinceQ W M seq := ⟨_, rfl⟩
      obtain ⟨la, hla⟩ : ∃ la, la = M.last := ⟨_, rfl⟩
      rw [← hla] at HLA h2 hw5
      rw [← hQ] at HF ⊢
      clear hQ h0 hg hlast hla hcs hcsl harr hk hkl
      go_enter Try.func33, Try.ntmps33
      go_wp2_with fail
      refine hL.mono ?_
      rintro e w1 ⟨rfl, rfl⟩
      go_wp2_with fail
      refine (HLA.out _ (Below.refl _ _)).mono ?_
      rintro e w1 ⟨rfl, hb1⟩
      go_wp2_with fail
      refine (HLA.out _ hb1.out).mono ?_
      rintro e w2 ⟨rfl, hb2⟩
      have H0 := Lib.hid (HLB.out w2 hb2.out)
      clear hb1 hb2 HLB HLA
      go_wp2_with fail
      obtain ⟨g, hge⟩ : ∃ g, g = w2.heap.size := ⟨_, rfl⟩
      rw [← hge] at H0 ⊢
      clear hge hmk
      go_loopw [23] (fun iv wr => ∃ z : Nat, z ≤ cs.length ∧ iv = .int .i64 (z : Int) ∧ Hid (SiJ W g cs.length cs z wr)) (fun iv _ => cs.length - (intOf iv).toNat)
      case atStart => exact ⟨0, Nat.zero_le _, rfl, H0⟩
      case round =>
        obtain ⟨z, hz, rfl, hst⟩ := hrel
        clear H0
        by_cases hzl : z < cs.length
        · have hzI : (z : Int) < (cs.length : Int) := by omega
          obtain ⟨ca, cc, r0, r1, rc, hci, hslt⟩ := HST.out wr hst.out.1
          obtain ⟨hkz, he⟩ := HEL.out z hzl
          rcases hci with hci | ⟨b2, off2, ea, hblt2, hv⟩
          · rw [hci] at hkz; simp at hkz
          subst ea
          obtain ⟨m0, m1, wa, wc, m2, hws⟩ := hv (k + z) hkz
          rw [he] at m0 m1 m2 hws
          have hzk : (k : Int) + (z : Int) < (M.cms.length : Int) := by omega
          have hw7 : IntKind.i64.wrap ((k : Int) + (z : Int)) = (k : Int) + (z : Int) := by rw [IntKind.wrap_i64]; omega
          have hcsz : (cs[z]).ws.length ≤ 900000 := by
            have h5 : ∀ (l : List CmM) c, c ∈ l → c.ws.length ≤ (allW l).length := fun l c hc => by
              obtain ⟨l1, l2, rfl⟩ := List.append_of_mem hc
              unfold allW
              simp
              omega
            have h6 := h5 M.cms _ (List.getElem_mem hkz)
            rw [he] at h6
            have := HWS.out
            omega
          have hgw := hst.out
          obtain ⟨x, hx⟩ : ∃ x, x = cs[z] := ⟨_, rfl⟩
          have HSS : Hid (∀ (w2 : World) (va : Option Addr) (vc : Nat), Below wr.heap.size wr w2 → RowK 81 3 wr.heap.size w2 (.slice va x.ws.length vc) x.ws.length (x.ws.flatMap wrcells) → SiJ W g cs.length cs (z + 1) (sets w2 g (z * 3) [.int .i64 x.seq, .int .i64 x.at_, .slice va x.ws.length vc])) := Lib.hid fun w2 va vc hb hw => by
            subst hx
            exact sj_step hgw rfl hzl hb hw
          rw [← hx] at m0 m1 m2 hws hcsz
          obtain ⟨sq, at_, ws⟩ := x
          simp only at m0 m1 m2 hws hcsz HSS
          have HC : Hid (Calls Try.prog 62 #[.agg #[.int .i64 sq, .int .i64 at_, .slice wa ws.length wc]] wr.drew fun e w2 => ∃ va vc, e = .returned (.agg #[.int .i64 sq, .int .i64 at_, .slice va ws.length vc]) ∧ w2.cell? ⟨s, 0, none⟩ = some (.int .i64 M.low) ∧ w2.cell? ⟨s, 1, none⟩ = some (.slice (some ⟨b2, off2, none⟩) M.cms.length cc) ∧
              ((∃ x0, w2.cell? ⟨g, z * 3, none⟩ = some x0) ∧ (∃ x1, w2.cell? ⟨g, z * 3 + 1, none⟩ = some x1) ∧ (∃ x2, w2.cell? ⟨g, z * 3 + 2, none⟩ = some x2)) ∧ (∀ i, w2.frozen? ⟨g, i, none⟩ = false) ∧ Hid (SiJ W g cs.length cs (z + 1) (sets w2 g (z * 3) [.int .i64 sq, .int .i64 at_, .slice va ws.length vc]))) := Lib.hid (by
            have hbd : Below wr.heap.size wr wr.drew := (Below.refl _ _).drew
            refine (cclone_any (cap := wc) sq at_ (hws.below hbd) rfl (by omega)).mono ?_
            rintro e w2 ⟨va, vc, rfl, hrow, hb⟩
            have hb2 : Below wr.heap.size wr w2 := hbd.trans hb
            obtain ⟨_, _, arr, wvs, k3, k4, _, _, _⟩ := hgw
            have hbx : Box w2 g 43 arr := (hb2.block g k3.lt).trans k3
            refine ⟨va, vc, rfl, (hb2.cell (p := ⟨s, 0, none⟩) hslt).trans r0, (hb2.cell (p := ⟨s, 1, none⟩) hslt).trans r1, ⟨⟨_, by rw [hbx.cell, Array.getElem?_eq_getElem (by omega)]⟩, ⟨_, by rw [hbx.cell, Array.getElem?_eq_getElem (by omega)]⟩, ⟨_, by rw [hbx.cell, Array.getElem?_eq_getElem (by omega)]⟩⟩, fun i => hbx.free i, Lib.hid (HSS.out w2 va vc hb2 hrow)⟩)
          clear hx hws hst hv he hgw HSS hcsz hblt2 hslt
          go_wp2_with fail
          go_region_with (first
            | (go_at_call 62; refine HC.out.mono ?_; rintro e w2 ⟨va, vc, rfl, y0, y1, ⟨⟨x0, e0⟩, ⟨x1, e1⟩, ⟨x2, e2⟩⟩, hfz, HN⟩; have g0 := hfz (z * 3); have g1 := hfz (z * 3 + 1); have g2 := hfz (z * 3 + 2)))
          all_goals
            have HN2 : Hid (SiJ W g cs.length cs (z + 1) (((w2.setCell ⟨g, z * 3, none⟩ (.int .i64 sq)).setCell ⟨g, z * 3 + 1, none⟩ (.int .i64 at_)).setCell ⟨g, z * 3 + 2, none⟩ (.slice va ws.length vc))) := HN
            clear HN HC hfz
            go_wp2_with fail
            go_roundw
            case rel => exact ⟨z + 1, by omega, by go_num, HN2⟩
            case measure => simp [intOf]; omega
        · obtain rfl : z = cs.length := by omega
          have hzI : ¬ (cs.length : Int) < (cs.length : Int) := by omega
          have HF2 := Lib.hid (HF.out wr g hst.out)
          clear hst hzl hz HF
          go_wp2
          first | exact HF2.out | (refine bodyPost_ret (v := .tuple #[.slice (some ⟨g, 0, none⟩) cs.length cs.length, .int .i64 0]) (by simp [results, Try.results33, go_sem]) rfl HF2.out)

end Go.Proofs.Ytookplnegfheeaa.wT
end

section
namespace Go.Proofs.Ytookplnegfheeaa.wT
open Go.RowKit Go.Proofs.Ytookplnegfheeaa.tC Go.Proofs.Ytookplnegfheeaa.sT

set_option linter.unusedVariables false
set_option linter.unusedSimpArgs false

/-- a commit with those of its writes whose keys begin so -/
def cutC (p : ByteArray) (c : CmM) : CmM := ⟨c.seq, c.at_, begF p c.ws⟩
/-- what a watcher is told of commits -/
def told (p : ByteArray) (cs : List CmM) : List CmM := (cs.map (cutC p)).filter fun c => !c.ws.isEmpty
theorem told_next {p : ByteArray} {cs : List CmM} {z : Nat} (h : z < cs.length) : told p (cs.take (z + 1)) = told p (cs.take z) ++ if (begF p (cs[z]).ws).isEmpty then [] else [cutC p cs[z]] := by
  unfold told
  rw [List.take_succ_eq_append_getElem h, List.map_append, List.filter_append]
  congr 1
  show List.filter _ [cutC p cs[z]] = _
  cases hb : (begF p (cs[z]).ws).isEmpty <;> simp [cutC, hb]
theorem told_len (p : ByteArray) (cs : List CmM) : (told p cs).length ≤ cs.length := Nat.le_trans (List.length_filter_le _ _) (by rw [List.length_map]; exact Nat.le_refl _)

/-- the blocks of rows -/
def BL (l : List Value) (q : Nat) : Prop := ∃ v ∈ l, v.ownBlock = some q
theorem cms_bl {B : Nat → Prop} {W : World} {L : List Value} : ∀ {l : List Value} {cs : List CmM}, (∀ v ∈ l, v ∈ L) → CmsAt B W l cs → CmsAt (BL L) W l cs
  | [], [], _, _ => trivial
  | [], _ :: _, _, h => h.elim
  | _ :: _, [], _, h => h.elim
  | v :: r, c :: t, hL, ⟨h1, h2⟩ => ⟨⟨h1.1, fun q hq => ⟨v, hL v List.mem_cons_self, hq⟩⟩, cms_bl (fun u hu => hL u (List.mem_cons_of_mem _ hu)) h2⟩

/-- between two rounds of Poll -/
structure PoI (W w1 wr : World) (gv : Value) (wvs : List Value) (cs : List CmM) (p : ByteArray) (bb z : Nat) (ov : Value) (mk : Int) : Prop where
  low : Below W.heap.size W wr
  n1 : w1.heap.size ≤ wr.heap.size
  list : RowK 43 3 W.heap.size wr gv cs.length (cmrow wvs cs)
  rest : CmsAt (BL (wvs.drop z)) wr (wvs.drop z) (cs.drop z)
  out : ∃ ovs, RowK 43 3 w1.heap.size wr ov (told p (cs.take z)).length (cmrow ovs (told p (cs.take z))) ∧ CmsAt (BL (wvs.take z)) wr ovs (told p (cs.take z))
  box : Box wr bb 58 #[ov, .int .i64 mk]

/-- what stays all the while -/
structure PoC (W w1 : World) (gv : Value) (wvs : List Value) (cs : List CmM) (bb : Nat) : Prop where
  far : Far wvs
  len : wvs.length = cs.length
  old : ∀ q, BL wvs q → W.heap.size ≤ q ∧ q < w1.heap.size
  lst : ∀ q, gv.ownBlock = some q → W.heap.size ≤ q ∧ q < w1.heap.size
  box : w1.heap.size ≤ bb
  w1 : W.heap.size ≤ w1.heap.size

theorem PoI.lowr {W w1 wr w2 : World} {gv : Value} {wvs : List Value} {cs : List CmM} {p : ByteArray} {bb z : Nat} {ov : Value} {mk : Int} (h : PoI W w1 wr gv wvs cs p bb z ov mk) (hb : Below wr.heap.size wr w2) : PoI W w1 w2 gv wvs cs p bb z ov mk := by
  obtain ⟨h1, h2, h3, h4, ⟨ovs, h5, h6⟩, h7⟩ := h
  have hk : ∀ {B : Nat → Prop} {l : List Value} {cs : List CmM}, CmsAt B wr l cs → CmsAt B w2 l cs := fun {B l cs} h => by
    have lt : ∀ {l : List Value} {cs : List CmM}, CmsAt B wr l cs → CmsAt (fun q => B q ∧ q < wr.heap.size) wr l cs := fun {l cs} => by
      induction l generalizing cs with
      | nil => cases cs with
        | nil => exact fun _ => trivial
        | cons _ _ => exact fun h => h.elim
      | cons v r ih => cases cs with
        | nil => exact fun h => h.elim
        | cons c q => exact fun ⟨h1, h2⟩ => ⟨⟨h1.1, fun b hb => ⟨h1.2 b hb, (h1.1.lt b hb).2⟩⟩, ih h2⟩
    exact (lt h).keep fun q hq => ⟨hb.block q hq.2, hq.1⟩
  exact ⟨h1.trans (hb.mono h1.size), Nat.le_trans h2 hb.size, h3.below hb, hk h4, ⟨ovs, h5.below hb, hk h6⟩, (hb.block bb h7.lt).trans h7⟩

/-- the row of the commit whose turn it is -/
theorem PoI.row {W w1 wr : World} {gv : Value} {wvs : List Value} {cs : List CmM} {p : ByteArray} {bb z : Nat} {ov : Value} {mk : Int} (h : PoI W w1 wr gv wvs cs p bb z ov mk) (hc : PoC W w1 gv wvs cs bb) (hz : z < cs.length) :
    ∃ hw : z < wvs.length, RowK 81 3 W.heap.size wr (wvs[z]) (cs[z]).ws.length ((cs[z]).ws.flatMap wrcells) := by
  have hw : z < wvs.length := by rw [hc.len]; exact hz
  refine ⟨hw, ?_⟩
  have h4 := h.rest
  rw [List.drop_eq_getElem_cons hw, List.drop_eq_getElem_cons hz] at h4
  exact h4.1.1.keep fun q hq => ⟨rfl, (hc.old q ⟨_, List.getElem_mem hw, hq⟩).1⟩

/-- behind begun: the row cut, the rest as it lay -/
theorem PoI.begun {W w1 wr : World} {gv : Value} {wvs : List Value} {cs : List CmM} {p : ByteArray} {bb z : Nat} {ov : Value} {mk : Int} (h : PoI W w1 wr gv wvs cs p bb z ov mk) (hc : PoC W w1 gv wvs cs bb) (hz : z < cs.length) {a : Option Addr} {c : Nat} (hv : ∀ hw : z < wvs.length, wvs[z] = .slice a (cs[z]).ws.length c) {e : Ending} {w3 : World} (hd : DelP W.heap.size wr a c p (cs[z]).ws e w3) :
    Below W.heap.size W w3 ∧ w1.heap.size ≤ w3.heap.size ∧ RowK 43 3 W.heap.size w3 gv cs.length (cmrow wvs cs) ∧ CmsAt (BL (wvs.drop (z + 1))) w3 (wvs.drop (z + 1)) (cs.drop (z + 1)) ∧
      (∃ ovs, RowK 43 3 w1.heap.size w3 ov (told p (cs.take z)).length (cmrow ovs (told p (cs.take z))) ∧ CmsAt (BL (wvs.take (z + 1))) w3 ovs (told p (cs.take z))) ∧
      Box w3 bb 58 #[ov, .int .i64 mk] ∧ WsAt (BL (wvs.take (z + 1))) w3 (.slice a (begF p (cs[z]).ws).length c) (begF p (cs[z]).ws) := by
  obtain ⟨hw, hrow⟩ := h.row hc hz
  obtain ⟨h1, h2, h3, h4, ⟨ovs, h5, h6⟩, h7⟩ := h
  obtain ⟨_, d2, d3⟩ := hd
  have hvz := hv hw
  rw [← hvz] at d3
  have hbox : ∀ q, (wvs[z]).ownBlock = some q → ∃ arr, Box wr q 81 arr := fun q hq => rowk_box hrow hq
  have hzq : ∀ q, (wvs[z]).ownBlock = some q → W.heap.size ≤ q := fun q hq => (hc.old q ⟨_, List.getElem_mem hw, hq⟩).1
  have hcm : ∀ q, (∃ arr, Box wr q 43 arr) → w3.heap[q]? = wr.heap[q]? := fun q ⟨arr, hb⟩ => d3.block q hb.lt fun e => by
    obtain ⟨arr2, h9⟩ := hbox q e.symm
    exact box_ne h9 hb (by decide) rfl
  have hoth : ∀ q, BL (wvs.drop (z + 1)) q → (∃ arr, Box wr q 81 arr) → w3.heap[q]? = wr.heap[q]? := fun q ⟨v, hv1, hv2⟩ ⟨arr, hb⟩ => d3.block q hb.lt fun e => by
    obtain ⟨i, hi, rfl⟩ := List.getElem_of_mem hv1
    rw [List.length_drop] at hi
    rw [List.getElem_drop] at hv2
    exact (List.pairwise_iff_getElem.1 hc.far) z (z + 1 + i) hw (by omega) (by omega) q e.symm hv2
  have hpre : ∀ q, BL (wvs.take z) q → (∃ arr, Box wr q 81 arr) → w3.heap[q]? = wr.heap[q]? := fun q ⟨v, hv1, hv2⟩ ⟨arr, hb⟩ => d3.block q hb.lt fun e => by
    obtain ⟨i, hi, rfl⟩ := List.getElem_of_mem hv1
    rw [List.length_take] at hi
    rw [List.getElem_take] at hv2
    exact (List.pairwise_iff_getElem.1 hc.far) i z (by omega) hw (by omega) q hv2 e.symm
  have hsub : ∀ q, BL (wvs.take z) q → BL (wvs.take (z + 1)) q := fun q ⟨v, hv1, hv2⟩ => ⟨v, by rw [List.take_succ_eq_append_getElem hw]; exact List.mem_append_left _ hv1, hv2⟩
  rw [List.drop_eq_getElem_cons hw, List.drop_eq_getElem_cons hz] at h4
  refine ⟨h1.grown d3 h1.size fun q hq => hzq q hq, Nat.le_trans h2 d3.size, h3.keep fun q hq => ⟨hcm q (rowk_box h3 hq), (hc.lst q hq).1⟩, (cms_bl (L := wvs.drop (z + 1)) (fun v hv => hv) h4.2).keepB fun q hq hb => ⟨hoth q hq hb, hq⟩, ⟨ovs, h5.keep fun q hq => ⟨hcm q (rowk_box h5 hq), (h5.lt q hq).1⟩, h6.keepB fun q hq hb => ⟨hpre q hq hb, hsub q hq⟩⟩, ?_, ?_⟩
  · refine (d3.block bb h7.lt fun e => ?_).trans h7
    obtain ⟨arr2, h9⟩ := hbox bb e.symm
    exact box_ne h9 h7 (by decide) rfl
  · exact ⟨d2.keep fun q hq => ⟨rfl, Nat.zero_le _⟩, fun q hq => ⟨wvs[z], by rw [List.take_succ_eq_append_getElem hw]; exact List.mem_append_right _ (List.mem_singleton.2 rfl), by rw [hvz]; cases a <;> exact hq⟩⟩

end Go.Proofs.Ytookplnegfheeaa.wT
end

section
namespace Go.Proofs.Ytookplnegfheeaa.wT
open Go.RowKit Go.Proofs.Ytookplnegfheeaa.tC Go.Proofs.Ytookplnegfheeaa.sT

set_option linter.unusedVariables false
set_option linter.unusedSimpArgs false

/-- begun on a commit's copy, its answer stored in the copy -/
theorem del_store {n0 : Nat} {wr w3 : World} {ob : Obj} {a : Option Addr} {c : Nat} {p : ByteArray} {ws : List Wr} {e : Ending} (h : DelP n0 (wr.alloc ob) a c p ws e w3) (hl : ∀ q, (Value.slice a ws.length c).ownBlock = some q → q < wr.heap.size) (i : Nat) (u : Value) : DelP n0 wr a c p ws e (w3.setCell ⟨wr.heap.size, i, none⟩ u) := by
  obtain ⟨h1, h2, h3⟩ := h
  have hb := (Below.refl wr.heap.size wr).alloc (Nat.le_refl _) ob
  have hs := Below.setCell (Below.refl 0 w3) (p := ⟨wr.heap.size, i, none⟩) (Nat.zero_le _) u
  refine ⟨h1, h2.keep fun q hq => ⟨Below.heap_setCell w3 ⟨wr.heap.size, i, none⟩ u q fun e => ?_, (h2.lt q hq).1⟩, ?_⟩
  · have := hl q (by cases a <;> exact hq)
    subst e
    exact absurd this (Nat.lt_irrefl _)
  · have h4 := ((below_grown hb).but (Value.slice a ws.length c).ownBlock).trans h3
    exact ⟨hs.os.trans h4.os, hs.tape.trans h4.tape, hs.output.trans h4.output, Nat.le_trans h4.size hs.size, fun k hk hne => (Below.heap_setCell w3 ⟨wr.heap.size, i, none⟩ u k (by show k ≠ wr.heap.size; omega)).trans (h4.block k hk hne)⟩

/-- ahead of the mark's store -/
structure PoH (W w1 wr : World) (gv : Value) (wvs : List Value) (cs : List CmM) (bb z : Nat) (out : List CmM) (ov : Value) (mk : Int) : Prop where
  low : Below W.heap.size W wr
  n1 : w1.heap.size ≤ wr.heap.size
  list : RowK 43 3 W.heap.size wr gv cs.length (cmrow wvs cs)
  rest : CmsAt (BL (wvs.drop z)) wr (wvs.drop z) (cs.drop z)
  out : ∃ ovs, RowK 43 3 w1.heap.size wr ov out.length (cmrow ovs out) ∧ CmsAt (BL (wvs.take z)) wr ovs out
  box : Box wr bb 58 #[ov, .int .i64 mk]

/-- the mark moves on -/
theorem PoH.mark {W w1 wr : World} {gv : Value} {wvs : List Value} {cs : List CmM} {p : ByteArray} {bb z : Nat} {ov : Value} {mk : Int} (h : PoH W w1 wr gv wvs cs bb z (told p (cs.take z)) ov mk) (hc : PoC W w1 gv wvs cs bb) (m : Int) : PoI W w1 (wr.setCell ⟨bb, 1, none⟩ (.int .i64 m)) gv wvs cs p bb z ov m := by
  obtain ⟨h1, h2, h3, h4, ⟨ovs, h5, h6⟩, h7⟩ := h
  have hw := hc.w1
  have hbb := hc.box
  have hfar : ∀ q, q ≠ bb → (wr.setCell ⟨bb, 1, none⟩ (.int .i64 m)).heap[q]? = wr.heap[q]? := fun q hq => Below.heap_setCell wr ⟨bb, 1, none⟩ _ q hq
  have hcb : ∀ q, (∃ arr, Box wr q 43 arr) → q ≠ bb := fun q ⟨arr, hb⟩ e => by
    subst e
    exact box_ne hb h7 (by decide) rfl
  have hwb : ∀ q, (∃ arr, Box wr q 81 arr) → q ≠ bb := fun q ⟨arr, hb⟩ e => by
    subst e
    exact box_ne hb h7 (by decide) rfl
  exact ⟨h1.setCell (p := ⟨bb, 1, none⟩) (by show W.heap.size ≤ bb; omega) _, by simpa [World.setCell] using h2, h3.keep fun q hq => ⟨hfar q (hcb q (rowk_box h3 hq)), (h3.lt q hq).1⟩, h4.keepB fun q hq hb => ⟨hfar q (hwb q hb), hq⟩, ⟨ovs, h5.keep fun q hq => ⟨hfar q (hcb q (rowk_box h5 hq)), (h5.lt q hq).1⟩, h6.keepB fun q hq hb => ⟨hfar q (hwb q hb), hq⟩⟩, h7.setSame 1 _⟩

/-- what begun cut is told -/
theorem PoH.app {W w1 wr : World} {gv : Value} {wvs : List Value} {cs : List CmM} {bb z : Nat} {out : List CmM} {ov : Value} {mk : Int} (h : PoH W w1 wr gv wvs cs bb z out ov mk) (hc : PoC W w1 gv wvs cs bb) (c : CmM) {a : Option Addr} {wk : Nat} (hw : WsAt (BL (wvs.take z)) wr (.slice a c.ws.length wk) c.ws) (hl : out.length ≤ 1000000) (ty : TypeId) :
    ∃ a2 c2 W2, (Builtin.append_ #[27, 27] ty #[ov, .slice (some ⟨wr.heap.size, 0, none⟩) 1 1]).run Try.prog (wr.alloc (.cells #[.int .i64 c.seq, .int .i64 c.at_, .slice a c.ws.length wk] 43)) = .ok (.slice a2 (out.length + 1) c2) W2 ∧
      Box W2 bb 58 #[ov, .int .i64 mk] ∧ wr.grownBy W2 ov.ownBlock ∧ PoH W w1 (W2.setCell ⟨bb, 0, none⟩ (.slice a2 (out.length + 1) c2)) gv wvs cs bb z (out ++ [c]) (.slice a2 (out.length + 1) c2) mk := by
  obtain ⟨h1, h2, h3, h4, ⟨ovs, h5, h6⟩, h7⟩ := h
  have hw1 := hc.w1
  have hbb := hc.box
  have hbA : Below wr.heap.size wr (wr.alloc (.cells #[.int .i64 c.seq, .int .i64 c.at_, .slice a c.ws.length wk] 43)) := (Below.refl _ _).alloc (Nat.le_refl _) _
  obtain ⟨i, hi, hz, hi1, hi2⟩ := info_parts infoCm
  have hlen := h6.len
  obtain ⟨v', W2, hr, ho, hu⟩ := run_app (P := Try.prog) _ w1.heap.size 27 ty 43 i _ 3 40 Try.underlying27 hi hz hi1 hi2 rfl (by decide) ov out.length (cmrow ovs out) (h5.below hbA).1 ⟨wr.heap.size, 0, none⟩ 1 1 [.int .i64 c.seq, .int .i64 c.at_, .slice a c.ws.length wk] rfl (fun j u hj => World.news_of_block (heap_alloc_new wr _) j u (by simpa using hj)) (fun u hu => by simp at hu; rcases hu with rfl | rfl | rfl <;> rfl) (by unfold maxLen; omega) (by omega) (Nat.le_trans h2 hbA.size)
  have hm : RowK 43 3 w1.heap.size W2 v' (out.length + 1) (cmrow (ovs ++ [.slice a c.ws.length wk]) (out ++ [c])) := by
    rw [cmrow_app _ _ _ _ hlen]
    refine ⟨ho, fun u hu => ?_⟩
    rcases List.mem_append.1 hu with hu | hu
    · exact h5.2 u hu
    · simp at hu; rcases hu with rfl | rfl | rfl <;> rfl
  obtain ⟨a2, c2, rfl, _⟩ := hm.form
  have hgr : wr.grownBy W2 ov.ownBlock := ((below_grown hbA).but _).trans hu.1
  have hwb : ∀ q, (∃ arr, Box wr q 81 arr) → W2.heap[q]? = wr.heap[q]? := fun q ⟨arr, hb⟩ => hgr.block q hb.lt fun e => by
    obtain ⟨arr2, h9⟩ := rowk_box h5 e.symm
    exact box_ne hb h9 (by decide) rfl
  have hbx2 : Box W2 bb 58 #[ov, .int .i64 mk] := (hgr.block bb h7.lt fun e => by
    obtain ⟨arr2, h9⟩ := rowk_box h5 e.symm
    exact box_ne h9 h7 (by decide) rfl).trans h7
  have hls : ∀ q, gv.ownBlock = some q → W2.heap[q]? = wr.heap[q]? := fun q hq => hgr.block q (h3.lt q hq).2 fun e => by
    have h8 := (h5.lt q e.symm).1
    have h9 := (hc.lst q hq).2
    omega
  have hfar : ∀ q, q ≠ bb → (W2.setCell ⟨bb, 0, none⟩ (.slice a2 (out.length + 1) c2)).heap[q]? = W2.heap[q]? := fun q hq => Below.heap_setCell W2 ⟨bb, 0, none⟩ _ q hq
  have hwne : ∀ q, (∃ arr, Box wr q 81 arr) → q ≠ bb := fun q ⟨arr, hb⟩ e => by
    subst e
    exact box_ne hb h7 (by decide) rfl
  have hcne : ∀ q, (∃ arr, Box W2 q 43 arr) → q ≠ bb := fun q ⟨arr, hb⟩ e => by
    subst e
    exact box_ne hb hbx2 (by decide) rfl
  have hlow : Below W.heap.size W W2 := h1.grown hgr h1.size fun q hq => by
    have := (h5.lt q hq).1
    omega
  have h3' : RowK 43 3 W.heap.size W2 gv cs.length (cmrow wvs cs) := h3.keep fun q hq => ⟨hls q hq, (h3.lt q hq).1⟩
  have hapd : CmsAt (BL (wvs.take z)) wr (ovs ++ [.slice a c.ws.length wk]) (out ++ [c]) := CmsAt.append hw h6
  refine ⟨a2, c2, W2, hr, hbx2, hgr, hlow.setCell (p := ⟨bb, 0, none⟩) (by show W.heap.size ≤ bb; omega) _, ?_, h3'.keep fun q hq => ⟨hfar q (hcne q (rowk_box h3' hq)), (h3'.lt q hq).1⟩, h4.keepB fun q hq hb => ⟨(hfar q (hwne q hb)).trans (hwb q hb), hq⟩, ⟨ovs ++ [.slice a c.ws.length wk], ?_, hapd.keepB fun q hq hb => ⟨(hfar q (hwne q hb)).trans (hwb q hb), hq⟩⟩, hbx2.setSame 0 _⟩
  · have := hgr.size
    simp only [World.setCell, Array.size_modify]
    omega
  · rw [List.length_append, List.length_singleton]
    exact hm.keep fun q hq => ⟨hfar q (hcne q (rowk_box hm hq)), (hm.lt q hq).1⟩

end Go.Proofs.Ytookplnegfheeaa.wT
end

section
namespace Go.Proofs.Ytookplnegfheeaa.wT
open Go.RowKit Go.Proofs.Ytookplnegfheeaa.tC Go.Proofs.Ytookplnegfheeaa.sT

set_option linter.unusedVariables false
set_option linter.unusedSimpArgs false

theorem cms_own {B : Nat → Prop} {W : World} : ∀ {l : List Value} {cs : List CmM}, CmsAt B W l cs → ∀ q, BL l q → B q ∧ q < W.heap.size
  | [], [], _, q, ⟨u, hu, _⟩ => by simp at hu
  | [], _ :: _, h, _, _ => h.elim
  | _ :: _, [], h, _, _ => h.elim
  | v :: r, c :: t, ⟨h1, h2⟩, q, ⟨u, hu, hq⟩ => by
    rcases List.mem_cons.1 hu with rfl | hu
    · exact ⟨h1.2 q hq, (h1.1.lt q hq).2⟩
    · exact cms_own h2 q ⟨u, hu, hq⟩

/-- what Poll tells of the commits behind a mark -/
def PollP (W : World) (cs : List CmM) (mark : Int) (p : ByteArray) (most : Int) (e : Ending) (W' : World) : Prop :=
  Below W.heap.size W W' ∧ ∃ (z : Nat) (oa : Option Addr) (oc : Nat) (mk : Int), z ≤ cs.length ∧ (∀ y, y < z → ((told p (cs.take y)).length : Int) < most) ∧ (z = cs.length ∨ ((told p (cs.take z)).length : Int) = most) ∧ (mk = if h : 0 < z ∧ z ≤ cs.length then (cs[z - 1]).seq else mark) ∧
    e = .returned (.tuple #[.agg #[.slice oa (told p (cs.take z)).length oc, .int .i64 mk], .int .i64 0]) ∧ CmsOwn W.heap.size W' (.slice oa (told p (cs.take z)).length oc) (told p (cs.take z))

/-- between two rounds -/
def PoL (W w1 : World) (gv : Value) (wvs : List Value) (cs : List CmM) (mark : Int) (p : ByteArray) (most : Int) (bb z : Nat) (wr : World) : Prop :=
  (∀ y, y < z → ((told p (cs.take y)).length : Int) < most) ∧ ((told p (cs.take z)).length : Int) ≤ most ∧ ∃ oa oc, PoI W w1 wr gv wvs cs p bb z (.slice oa (told p (cs.take z)).length oc) (if h : 0 < z ∧ z ≤ cs.length then (cs[z - 1]).seq else mark)

theorem po_start {W w1 : World} {gv : Value} {wvs : List Value} {cs : List CmM} {mark : Int} {p : ByteArray} {most : Int} (hl : Below W.heap.size W w1) (hr : RowK 43 3 W.heap.size w1 gv cs.length (cmrow wvs cs)) (hc : CmsAt (fun q => W.heap.size ≤ q) w1 wvs cs) (hf : Far wvs) (hm : 1 ≤ most) :
    PoC W w1 gv wvs cs w1.heap.size ∧ PoL W w1 gv wvs cs mark p most w1.heap.size 0 (w1.alloc (.cells #[.slice none 0 0, .int .i64 mark] 58)) := by
  have hbA : Below w1.heap.size w1 (w1.alloc (.cells #[.slice none 0 0, .int .i64 mark] 58)) := (Below.refl _ _).alloc (Nat.le_refl _) _
  refine ⟨⟨hf, hc.len, fun q hq => cms_own hc q hq, fun q hq => hr.lt q hq, Nat.le_refl _, hl.size⟩, fun y hy => absurd hy (Nat.not_lt_zero _), by simp [told]; omega, none, 0, ?_⟩
  have hcl : CmsAt (BL wvs) (w1.alloc (.cells #[.slice none 0 0, .int .i64 mark] 58)) wvs cs := (cms_bl (L := wvs) (fun v hv => hv) hc).keep fun q hq => ⟨hbA.block q (cms_own hc q hq).2, hq⟩
  refine ⟨hl.trans (hbA.mono hl.size), hbA.size, hr.below hbA, by simpa using hcl, ⟨[], ⟨⟨by simp [told, cmrow], .inl ⟨by simp [told], by simp [told]⟩⟩, fun u hu => by simp [cmrow, told] at hu⟩, by simp [told, CmsAt]⟩, ?_⟩
  have := Box.new w1 58 #[.slice none 0 0, .int .i64 mark]
  simpa [told] using this

/-- the list's cells at a round -/
theorem po_at {W w1 wr : World} {gv : Value} {wvs : List Value} {cs : List CmM} {p : ByteArray} {bb z : Nat} {ov : Value} {mk : Int} (h : PoI W w1 wr gv wvs cs p bb z ov mk) (hc : PoC W w1 gv wvs cs bb) (hz : z < cs.length) {ga : Option Addr} {gc : Nat} (hg : gv = .slice ga cs.length gc) :
    ∃ g a c, ga = some ⟨g, 0, none⟩ ∧ (∃ hw : z < wvs.length, wvs[z] = .slice a (cs[z]).ws.length c) ∧ wr.cell? ⟨g, z * 3, none⟩ = some (.int .i64 (cs[z]).seq) ∧ wr.cell? ⟨g, z * 3 + 1, none⟩ = some (.int .i64 (cs[z]).at_) ∧ wr.cell? ⟨g, z * 3 + 2, none⟩ = some (.slice a (cs[z]).ws.length c) := by
  obtain ⟨hw, hrow⟩ := h.row hc hz
  obtain ⟨a, c, e, _⟩ := hrow.form
  have hr := h.list
  rw [hg] at hr
  obtain ⟨g, rfl⟩ : ∃ g, ga = some ⟨g, 0, none⟩ := by
    rcases hr.1.2 with ⟨e, h0⟩ | ⟨g, cap, cur, e, _⟩
    · omega
    · injection e with e1 _ _
      exact ⟨g, e1⟩
  obtain ⟨arr, hbx, _, _, _, _, hq⟩ := hr.parts
  have hcell : ∀ t, t < 3 → wr.cell? ⟨g, z * 3 + t, none⟩ = (cmrow wvs cs)[z * 3 + t]? := fun t ht => by rw [hbx.cell, hq _ (by omega)]
  have hrowz : ∀ (l : List Value) (cs : List CmM) (z : Nat) (hl : l.length = cs.length) (hz : z < cs.length) (hz2 : z < l.length), (cmrow l cs)[z * 3]? = some (.int .i64 (cs[z]).seq) ∧ (cmrow l cs)[z * 3 + 1]? = some (.int .i64 (cs[z]).at_) ∧ (cmrow l cs)[z * 3 + 2]? = some (l[z]) := fun l => by
    induction l with
    | nil => intro cs z hl hz hz2; simp at hz2
    | cons v r ih => intro cs z hl hz hz2; cases cs with
      | nil => simp at hz
      | cons d t =>
        cases z with
        | zero => simp [cmrow]
        | succ z =>
          obtain ⟨t0, t1, t2⟩ := ih t z (by simpa using hl) (by simpa using hz) (by simpa using hz2)
          have ap : ∀ q, (cmrow (v :: r) (d :: t))[q + 3]? = (cmrow r t)[q]? := fun q => rfl
          exact ⟨by rw [show (z + 1) * 3 = z * 3 + 3 by omega]; exact (ap _).trans t0, by rw [show (z + 1) * 3 + 1 = z * 3 + 1 + 3 by omega]; exact (ap _).trans t1, by rw [show (z + 1) * 3 + 2 = z * 3 + 2 + 3 by omega]; exact (ap _).trans t2⟩
  obtain ⟨r0, r1, r2⟩ := hrowz wvs cs z hc.len hz hw
  refine ⟨g, a, c, rfl, ⟨hw, e⟩, (hcell 0 (by omega)).trans r0, (hcell 1 (by omega)).trans r1, (hcell 2 (by omega)).trans ?_⟩
  rw [r2, e]

end Go.Proofs.Ytookplnegfheeaa.wT
end

section
namespace Go.Proofs.Ytookplnegfheeaa.wT
open Go.RowKit Go.Proofs.Ytookplnegfheeaa.tC Go.Proofs.Ytookplnegfheeaa.sT

set_option linter.unusedVariables false
set_option linter.unusedSimpArgs false

attribute [-go_sem] Builtin.append_
set_option maxHeartbeats 4000000 in
set_option maxRecDepth 100000 in
theorem poll_told {P : Nat → Prop} {W : World} {s : Nat} {M : StM} (h0 : StoreAt P W s M) {N : Nat} (hg : SG M N) (hN : N ≤ 900000) (k : Nat) (hk : k ≤ M.cms.length) (mark : Int) (hmk : mark = ((M.low + k : Nat) : Int)) (p : ByteArray) (hp : p.size ≤ 400) (most : Int) (h1 : 1 ≤ most) (h2 : most ≤ 100) :
    Calls Try.prog 37 #[.pointer (some ⟨s, 0, none⟩), .int .i64 mark, .string p, .int .i64 most] W (PollP W (M.cms.drop k) mark p most) := by
  obtain ⟨cs, hcs⟩ : ∃ cs, cs = M.cms.drop k := ⟨_, rfl⟩
  obtain ⟨n, hn⟩ : ∃ n, n = cs.length := ⟨_, rfl⟩
  have hn2 : M.cms.length - k = n := by rw [hn, hcs, List.length_drop]
  have hn9 : n ≤ 900000 := by have := hg.cms; omega
  obtain ⟨w0, hw0⟩ : ∃ w0, w0 = W.alloc (.cells #[.slice none 0 0, .int .i64 0] 58) := ⟨_, rfl⟩
  have hbA : Below W.heap.size W w0 := by rw [hw0]; exact (Below.refl _ _).alloc (Nat.le_refl _) _
  have HSI : Hid (Calls Try.prog 33 #[.pointer (some ⟨s, 0, none⟩), .int .i64 mark] w0 fun e w1 => ∃ ga gc, e = .returned (.tuple #[.slice ga n gc, .int .i64 0]) ∧ Hid (Below w0.heap.size w0 w1 ∧ CmsFar w0.heap.size w1 (.slice ga n gc) cs)) := Lib.hid (by
    refine (sinceQ_any (h0.below hbA) hg hN mark).mono ?_
    rintro e w1 ⟨hb, ⟨c1, _⟩ | ⟨_, c1, _⟩ | ⟨k2, c1, c2, ga, gc, rfl, hf⟩⟩
    · omega
    · have : (M.last : Int) = ((M.low + M.cms.length : Nat) : Int) := rfl
      omega
    · obtain rfl : k2 = k := by omega
      rw [hn2, ← hcs] at hf
      rw [hn2]
      exact ⟨ga, gc, rfl, Lib.hid ⟨hb, hf⟩⟩)
  have HWS : Hid (∀ z (h : z < cs.length), (cs[z]).ws.length ≤ 900000) := Lib.hid fun z h => by
    have h5 : ∀ (l : List CmM) c, c ∈ l → c.ws.length ≤ (allW l).length := fun l c hc => by
      obtain ⟨l1, l2, rfl⟩ := List.append_of_mem hc
      unfold allW
      simp
      omega
    have h6 := h5 cs _ (List.getElem_mem h)
    have h7 := (allW_drop M.cms k).1
    rw [← hcs] at h7
    have := hg.ws
    omega
  have HBW : Hid (Below W.heap.size W w0 ∧ Box w0 W.heap.size 58 #[.slice none 0 0, .int .i64 0]) := Lib.hid ⟨hbA, by rw [hw0]; exact Box.new W _ _⟩
  have HN := Lib.hid hn
  rw [← hcs]
  obtain ⟨Q, hQ⟩ : ∃ Q, Q = PollP W cs mark p most := ⟨_, rfl⟩
  have HQ := Lib.hid hQ
  rw [← hQ]
  have hpI : (p.size : Int) ≤ 400 := by omega
  have HM := Lib.hid (And.intro h1 h2)
  have hm1 : (most < 1) = False := eq_false (by omega)
  have hm2 : ((100 : Int) < most) = False := eq_false (by omega)
  have hm3 : ((400 : Int) < (p.size : Int)) = False := eq_false (by omega)
  clear h0 hg hk hmk hcs hn hn2 hbA hQ hp hpI h1 h2
  go_enter Try.func37, Try.ntmps37
  go_wp2_with fail
  rw [← hw0]
  obtain ⟨r8, hr8⟩ : ∃ r8, r8 = W.heap.size := ⟨_, rfl⟩
  try rw [← hr8]
  have HR8 := Lib.hid hr8
  clear hw0 hr8
  go_step3
  go_wp2_with fail
  clear hm1 hm2 hm3
  refine HSI.out.mono ?_
  rintro e w1 ⟨ga, gc, rfl, HS⟩
  have H0 : Hid (∃ wvs, PoC w0 w1 (.slice ga n gc) wvs cs w1.heap.size ∧ PoL w0 w1 (.slice ga n gc) wvs cs mark p most w1.heap.size 0 (w1.alloc (.cells #[.slice none 0 0, .int .i64 mark] 58))) := Lib.hid (by
    obtain ⟨hb, wvs, q1, q2, q3⟩ := HS.out
    obtain ⟨s1, s2⟩ := po_start (mark := mark) (p := p) (most := most) hb q1 q2 q3 HM.out.1
    exact ⟨wvs, s1, s2⟩)
  clear HSI HS
  go_wp2_with fail
  go_step3
  go_wp2_with fail
  obtain ⟨bb, hbb⟩ : ∃ bb, bb = w1.heap.size := ⟨_, rfl⟩
  rw [← hbb] at H0 ⊢
  have HBB := Lib.hid hbb
  clear hbb
  obtain ⟨wvs, HPC, HPL⟩ : ∃ wvs, Hid (PoC w0 w1 (.slice ga n gc) wvs cs bb) ∧ Hid (PoL w0 w1 (.slice ga n gc) wvs cs mark p most bb 0 (w1.alloc (.cells #[.slice none 0 0, .int .i64 mark] 58))) := by
    obtain ⟨wvs, k1, k2⟩ := H0.out
    exact ⟨wvs, Lib.hid k1, Lib.hid k2⟩
  clear H0
  have HEND : Hid (∀ (z : Nat) (wr : World) (oa : Option Addr) (oc : Nat) (mk : Int) (B : Nat → Prop), z ≤ n → (∀ y, y < z → ((told p (cs.take y)).length : Int) < most) → (z = n ∨ ((told p (cs.take z)).length : Int) = most) → mk = (if h : 0 < z ∧ z ≤ cs.length then (cs[z - 1]).seq else mark) → Below w0.heap.size w0 wr → (∀ q, B q → w0.heap.size ≤ q) → (∃ ovs, RowK 43 3 w1.heap.size wr (.slice oa (told p (cs.take z)).length oc) (told p (cs.take z)).length (cmrow ovs (told p (cs.take z))) ∧ CmsAt B wr ovs (told p (cs.take z))) →
      ((∃ x0, wr.cell? ⟨r8, 0, none⟩ = some x0) ∧ (∃ x1, wr.cell? ⟨r8, 1, none⟩ = some x1) ∧ wr.frozen? ⟨r8, 0, none⟩ = false ∧ wr.frozen? ⟨r8, 1, none⟩ = false) ∧
      (((wr.setCell ⟨r8, 0, none⟩ (.slice oa (told p (cs.take z)).length oc)).setCell ⟨r8, 1, none⟩ (.int .i64 mk)).cell? ⟨r8, 0, none⟩ = some (.slice oa (told p (cs.take z)).length oc) ∧ ((wr.setCell ⟨r8, 0, none⟩ (.slice oa (told p (cs.take z)).length oc)).setCell ⟨r8, 1, none⟩ (.int .i64 mk)).cell? ⟨r8, 1, none⟩ = some (.int .i64 mk)) ∧ Hid (Q (.returned (.tuple #[.agg #[.slice oa (told p (cs.take z)).length oc, .int .i64 mk], .int .i64 0])) ((wr.setCell ⟨r8, 0, none⟩ (.slice oa (told p (cs.take z)).length oc)).setCell ⟨r8, 1, none⟩ (.int .i64 mk)))) := Lib.hid fun z wr oa oc mk B hz hlt hend hmk hlow hB hout => by
    have hb8 : Box wr r8 58 #[.slice none 0 0, .int .i64 0] := by
      rw [HR8.out]
      exact (hlow.block _ HBW.out.2.lt).trans HBW.out.2
    have hb9 := (hb8.setSame 0 (.slice oa (told p (cs.take z)).length oc)).setSame 1 (.int .i64 mk)
    refine ⟨⟨⟨_, hb8.cell 0⟩, ⟨_, hb8.cell 1⟩, hb8.free 0, hb8.free 1⟩, ⟨hb9.cell 0, hb9.cell 1⟩, Lib.hid ?_⟩
    rw [HQ.out]
    have hlowW : Below W.heap.size W wr := HBW.out.1.trans (hlow.mono HBW.out.1.size)
    have h8 : W.heap.size ≤ r8 := by rw [HR8.out]; exact Nat.le_refl _
    refine ⟨(hlowW.setCell (p := ⟨r8, 0, none⟩) h8 _).setCell (p := ⟨r8, 1, none⟩) h8 _, z, oa, oc, mk, by have := HN.out; omega, hlt, by rw [← HN.out]; exact hend, hmk, rfl, ?_⟩
    obtain ⟨ovs, h5, h6⟩ := hout
    have hne : ∀ q, (∃ arr, Box wr q 43 arr) → q ≠ r8 := fun q ⟨arr, hb⟩ e => by
      subst e
      exact box_ne hb hb8 (by decide) rfl
    have hne2 : ∀ q, (∃ arr, Box wr q 81 arr) → q ≠ r8 := fun q ⟨arr, hb⟩ e => by
      subst e
      exact box_ne hb hb8 (by decide) rfl
    have hfar : ∀ q, q ≠ r8 → ((wr.setCell ⟨r8, 0, none⟩ (.slice oa (told p (cs.take z)).length oc)).setCell ⟨r8, 1, none⟩ (.int .i64 mk)).heap[q]? = wr.heap[q]? := fun q hq =>
      (Below.heap_setCell _ ⟨r8, 1, none⟩ _ q hq).trans (Below.heap_setCell wr ⟨r8, 0, none⟩ _ q hq)
    exact ⟨ovs, h5.keep fun q hq => ⟨hfar q (hne q (rowk_box h5 hq)), by have h71 := (h5.lt q hq).1; have h72 := HPC.out.w1; have h73 := HBW.out.1.size; omega⟩, h6.keepB fun q hq hb => ⟨hfar q (hne2 q hb), by have h71 := hB q hq; have h73 := HBW.out.1.size; omega⟩⟩
  go_loopw [41] (fun iv wr => ∃ z : Nat, z ≤ n ∧ iv = .int .i64 (z : Int) ∧ Hid (PoL w0 w1 (.slice ga n gc) wvs cs mark p most bb z wr)) (fun iv _ => n - (intOf iv).toNat)
  case atStart => exact ⟨0, Nat.zero_le _, rfl, HPL⟩
  case round =>
    obtain ⟨z, hz, rfl, hst⟩ := hrel
    clear HPL
    by_cases hzl : z < n
    · have hzI : (z : Int) < (n : Int) := by omega
      have hzc : z < cs.length := by rw [← HN.out]; exact hzl
      obtain ⟨hlt, hle, oa, oc, hPI⟩ := hst.out
      obtain ⟨mk, hmk⟩ : ∃ mk, mk = (if h : 0 < z ∧ z ≤ cs.length then (cs[z - 1]).seq else mark) := ⟨_, rfl⟩
      rw [← hmk] at hPI
      have HMK := Lib.hid hmk
      clear hmk
      obtain ⟨g, a, c, rfl, ⟨hw, hwv⟩, m0, m1, m2⟩ := po_at hPI HPC.out hzc (by rw [← HN.out])
      obtain ⟨_, hrow⟩ := hPI.row HPC.out hzc
      rw [hwv] at hrow
      have hws := HWS.out z hzc
      have HTN := Lib.hid (told_next (p := p) hzc)
      have HPI := Lib.hid hPI
      have hvz : ∀ hw : z < wvs.length, wvs[z] = .slice a (cs[z]).ws.length c := fun _ => hwv
      have HBE := Lib.hid (fun e w3 hd => hPI.begun HPC.out hzc (a := a) (c := c) hvz (e := e) (w3 := w3) hd)
      have HRW := Lib.hid hrow
      have HLT := Lib.hid hlt
      have HLE := Lib.hid hle
      have hmz : (if h : 0 < z + 1 ∧ z + 1 ≤ cs.length then (cs[z + 1 - 1]).seq else mark) = (cs[z]).seq := by rw [dif_pos ⟨by omega, by omega⟩]; rfl
      have HMZ := Lib.hid hmz
      obtain ⟨tl, htl⟩ : ∃ tl, tl = (told p (cs.take z)).length := ⟨_, rfl⟩
      have HTL := Lib.hid htl
      rw [← htl] at HPI
      clear hPI hrow hlt hle hmz hwv hvz htl
      obtain ⟨x, hx⟩ : ∃ x, x = cs[z] := ⟨_, rfl⟩
      rw [← hx] at m0 m1 m2 hws HTN HBE HRW HMZ
      clear hx
      obtain ⟨sq, at_, ws⟩ := x
      simp only at m0 m1 m2 hws HTN HBE HRW HMZ
      obtain ⟨wl, hwl⟩ : ∃ wl, wl = ws.length := ⟨_, rfl⟩
      have HWL := Lib.hid hwl
      rw [← hwl] at m2 hws
      have HBG : Hid (Calls Try.prog 69 #[.slice a wl c, .string p] (wr.alloc (.cells #[.int .i64 sq, .int .i64 at_, .slice a wl c] 43)) (DelP w0.heap.size (wr.alloc (.cells #[.int .i64 sq, .int .i64 at_, .slice a wl c] 43)) a c p ws)) := Lib.hid (by
        have hbA : Below wr.heap.size wr (wr.alloc (.cells #[.int .i64 sq, .int .i64 at_, .slice a wl c] 43)) := (Below.refl _ _).alloc (Nat.le_refl _) _
        have h9 := HRW.out.below hbA
        rw [← hwl] at h9
        exact begun_any h9 hwl.symm (by omega) p)
      clear hwl
      go_wp2_with fail
      refine HBG.out.mono ?_
      rintro e w3 hd
      obtain ⟨k, hk⟩ : ∃ k, k = (begF p ws).length := ⟨_, rfl⟩
      have hrl := HRW.out
      have hds := del_store hd (fun q hq => (hrl.lt q hq).2) 2 (.slice a k c)
      have hall := HBE.out e _ hds
      have he := hd.1
      rw [← hk] at he hall
      rw [← HTL.out] at hall
      subst he
      have hbc : Box w3 wr.heap.size 43 #[.int .i64 sq, .int .i64 at_, .slice a wl c] := by
        have hb0 := Box.new wr 43 #[.int .i64 sq, .int .i64 at_, .slice a wl c]
        refine (hd.2.2.block _ hb0.lt fun e => ?_).trans hb0
        have := (hrl.lt _ e.symm).2
        omega
      have y2 := hbc.cell 2
      have f2 := hbc.free 2
      have hbc4 := hbc.setSame 2 (.slice a k c)
      have u0 := hbc4.cell 0
      have u1 := hbc4.cell 1
      have u2 := hbc4.cell 2
      simp only [List.getElem?_toArray, List.getElem?_cons_zero, List.getElem?_cons_succ, List.setIfInBounds_toArray, List.set_cons_zero, List.set_cons_succ] at y2 u0 u1 u2
      have t0 := hall.2.2.2.2.2.1.cell 0
      have t1 := hall.2.2.2.2.2.1.cell 1
      have t2 := hall.2.2.2.2.2.1.free 0
      have t3 := hall.2.2.2.2.2.1.free 1
      simp only [List.getElem?_toArray, List.getElem?_cons_zero, List.getElem?_cons_succ] at t0 t1
      have HALL := Lib.hid hall
      have HBC := Lib.hid hbc4
      have HRL := Lib.hid fun q (hq : (Value.slice oa tl oc).ownBlock = some q) => (HPI.out.out.elim fun ovs h => h.1.lt q hq).2
      have HK := Lib.hid hk
      clear hds hall hd hrl hbc hbc4 hk m0 m1 m2 HBG HBE
      by_cases hmo : (tl : Int) = most
      · have e1 : ((tl : Int) == most) = true := by rw [beq_iff_eq]; exact hmo
        have hE := HEND.out z (w3.setCell ⟨wr.heap.size, 2, none⟩ (.slice a k c)) oa oc mk (BL (wvs.take (z + 1))) hz HLT.out (.inr (by rw [← HTL.out]; exact hmo)) HMK.out HALL.out.1 (fun q hq => by obtain ⟨v, hv, e⟩ := hq; exact (HPC.out.old q ⟨v, List.mem_of_mem_take hv, e⟩).1) (by have := HALL.out.2.2.2.2.1; rw [HTL.out] at this; exact this)
        rw [← HTL.out] at hE
        obtain ⟨⟨⟨x0, g0⟩, ⟨x1, g1⟩, g2, g3⟩, ⟨v0, v1⟩, HF⟩ := hE
        clear HEND hst
        go_wp2_with fail
        first | exact HF.out | ((try (rw [Exit.noGoto_ret])); refine bodyPost_ret (v := .tuple #[.agg #[.slice oa tl oc, .int .i64 mk], .int .i64 0]) (by simp [results, Try.results37, go_sem, v0, v1]) rfl HF.out)
      · have e1 : ((tl : Int) == most) = false := by rw [beq_eq_false_iff_ne]; exact hmo
        have hH : PoH w0 w1 (w3.setCell ⟨wr.heap.size, 2, none⟩ (.slice a k c)) (.slice (some ⟨g, 0, none⟩) n gc) wvs cs bb (z + 1) (told p (cs.take z)) (.slice oa tl oc) mk := ⟨HALL.out.1, HALL.out.2.1, HALL.out.2.2.1, HALL.out.2.2.2.1, by have := HALL.out.2.2.2.2.1; rw [HTL.out] at this ⊢; exact this, HALL.out.2.2.2.2.2.1⟩
        have HHH := Lib.hid hH
        clear hH
        have HLT2 : Hid (∀ y, y < z + 1 → ((told p (cs.take y)).length : Int) < most) := Lib.hid fun y hy => by
          by_cases e : y = z
          · subst e; have := HLE.out; rw [← HTL.out] at this ⊢; omega
          · exact HLT.out y (by omega)
        by_cases hk0 : k = 0
        · subst hk0
          have htn : told p (cs.take (z + 1)) = told p (cs.take z) := by
            rw [HTN.out, if_pos (by rw [List.isEmpty_iff, ← List.length_eq_zero_iff, ← HK.out]), List.append_nil]
          have HN2 : Hid (PoL w0 w1 (.slice (some ⟨g, 0, none⟩) n gc) wvs cs mark p most bb (z + 1) ((w3.setCell ⟨wr.heap.size, 2, none⟩ (.slice a 0 c)).setCell ⟨bb, 1, none⟩ (.int .i64 sq))) := Lib.hid (by
            refine ⟨HLT2.out, by rw [htn]; exact HLE.out, oa, oc, ?_⟩
            rw [HMZ.out, htn, ← HTL.out]
            have h9 := HHH.out
            rw [← htn] at h9
            exact h9.mark HPC.out sq)
          clear HEND hst htn hmo
          go_wp2_with fail
          go_roundw
          case rel => exact ⟨z + 1, by omega, by go_num, HN2⟩
          case measure => simp [intOf]; omega
        · have hkp : (0 : Int) < (k : Int) := by omega
          have htn : told p (cs.take (z + 1)) = told p (cs.take z) ++ [⟨sq, at_, begF p ws⟩] := by
            have hne : ¬ (begF p ws).isEmpty = true := by
              rw [List.isEmpty_iff, ← List.length_eq_zero_iff, ← HK.out]
              omega
            rw [HTN.out, if_neg hne]
            rfl
          have hws7 : WsAt (BL (wvs.take (z + 1))) (w3.setCell ⟨wr.heap.size, 2, none⟩ (.slice a k c)) (.slice a (begF p ws).length c) (begF p ws) := by rw [← HK.out]; exact HALL.out.2.2.2.2.2.2
          have hap := HHH.out.app HPC.out ⟨sq, at_, begF p ws⟩ (a := a) (wk := c) hws7 (by rw [← HTL.out]; have := HLE.out; rw [← HTL.out] at this; have := HM.out.2; omega) 27
          rw [← HTL.out] at hap
          simp only at hap
          rw [← HK.out] at hap
          obtain ⟨a5, c5, w5, hrun, hbx5, hgr5, hH5⟩ := hap
          have hsz3 : (w3.setCell ⟨wr.heap.size, 2, none⟩ (.slice a k c)).heap.size = w3.heap.size := by simp [World.setCell]
          rw [hsz3] at hrun
          clear hsz3
          have q0 := hbx5.cell 0
          have q1 := hbx5.free 0
          have q2 := (hbx5.setSame 0 (.slice a5 (tl + 1) c5)).cell 1
          have q3 := (hbx5.setSame 0 (.slice a5 (tl + 1) c5)).free 1
          have hbc5 : Box w5 wr.heap.size 43 #[.int .i64 sq, .int .i64 at_, .slice a k c] := (hgr5.block _ HBC.out.lt fun e => by have := HRL.out _ e.symm; omega).trans HBC.out
          have hneb : wr.heap.size ≠ bb := fun e => by
            rw [e] at hbc5
            exact box_ne hbc5 hbx5 (by decide) rfl
          have q4 := (hbc5.setFar (p := ⟨bb, 0, none⟩) hneb (.slice a5 (tl + 1) c5)).cell 0
          simp only [List.getElem?_toArray, List.getElem?_cons_zero, List.getElem?_cons_succ, List.setIfInBounds_toArray, List.set_cons_zero, List.set_cons_succ] at q0 q2 q4
          have HN2 : Hid (PoL w0 w1 (.slice (some ⟨g, 0, none⟩) n gc) wvs cs mark p most bb (z + 1) ((w5.setCell ⟨bb, 0, none⟩ (.slice a5 (tl + 1) c5)).setCell ⟨bb, 1, none⟩ (.int .i64 sq))) := Lib.hid (by
            have hl2 : (told p (cs.take (z + 1))).length = tl + 1 := by rw [htn, List.length_append, ← HTL.out]; rfl
            refine ⟨HLT2.out, by rw [hl2]; have h8 := HLE.out; rw [← HTL.out] at h8; omega, a5, c5, ?_⟩
            rw [HMZ.out, hl2]
            rw [← htn] at hH5
            exact hH5.mark HPC.out sq)
          clear HEND hst htn hmo hbx5 hgr5 hH5 hbc5 hws7 hk0
          go_wp2_with fail
          go_roundw
          case rel => exact ⟨z + 1, by omega, by go_num, HN2⟩
          case measure => simp [intOf]; omega
    · obtain rfl : z = n := by omega
      have hzI : ¬ ((z : Int) < (z : Int)) := by omega
      obtain ⟨hlt, hle, oa, oc, hPI⟩ := hst.out
      obtain ⟨mk, hmk⟩ : ∃ mk, mk = (if h : 0 < z ∧ z ≤ cs.length then (cs[z - 1]).seq else mark) := ⟨_, rfl⟩
      rw [← hmk] at hPI
      have hE := HEND.out z wr oa oc mk (BL (wvs.take z)) (Nat.le_refl _) hlt (.inl rfl) hmk hPI.low (fun q hq => by obtain ⟨v, hv, e⟩ := hq; exact (HPC.out.old q ⟨v, List.mem_of_mem_take hv, e⟩).1) hPI.out
      have t0 := hPI.box.cell 0
      have t1 := hPI.box.cell 1
      simp only [List.getElem?_toArray, List.getElem?_cons_zero, List.getElem?_cons_succ] at t0 t1
      obtain ⟨tl, htl⟩ : ∃ tl, tl = (told p (cs.take z)).length := ⟨_, rfl⟩
      rw [← htl] at hE t0
      obtain ⟨⟨⟨x0, g0⟩, ⟨x1, g1⟩, g2, g3⟩, ⟨v0, v1⟩, HF⟩ := hE
      clear HEND hst hPI hlt hle hmk htl
      go_wp2_with fail
      all_goals first | exact HF.out | ((try (rw [Exit.noGoto_ret])); refine bodyPost_ret (v := .tuple #[.agg #[.slice oa tl oc, .int .i64 mk], .int .i64 0]) (by simp [results, Try.results37, go_sem, v0, v1]) rfl HF.out)

end Go.Proofs.Ytookplnegfheeaa.wT
end

section
namespace Go.Proofs.Ytookplnegfheeaa.wT
open Go.RowKit Go.Proofs.Ytookplnegfheeaa.tC Go.Proofs.Ytookplnegfheeaa.sT

set_option linter.unusedVariables false
set_option linter.unusedSimpArgs false

/-- arguments that are none -/
theorem poll_arg (ps : Option Addr) (mark : Int) (p : ByteArray) (most : Int) (W : World) (h : most < 1 ∨ (¬ most < 1 ∧ 100 < most) ∨ (¬ most < 1 ∧ ¬ 100 < most ∧ 400 < p.size)) :
    Calls Try.prog 37 #[.pointer ps, .int .i64 mark, .string p, .int .i64 most] W fun e W' => e = .returned (.tuple #[.agg #[.slice none 0 0, .int .i64 0], .int .i64 1]) ∧ Below W.heap.size W W' := by
  have hbA : Below W.heap.size W (W.alloc (.cells #[.slice none 0 0, .int .i64 0] 58)) := (Below.refl _ _).alloc (Nat.le_refl _) _
  have hb8 := Box.new W 58 #[.slice none 0 0, .int .i64 0]
  have hb9 := (hb8.setSame 0 (.slice none 0 0)).setSame 1 (.int .i64 0)
  have v0 := hb9.cell 0
  have v1 := hb9.cell 1
  have hlow := (hbA.setCell (p := ⟨W.heap.size, 0, none⟩) (Nat.le_refl _) (.slice none 0 0)).setCell (p := ⟨W.heap.size, 1, none⟩) (Nat.le_refl _) (.int .i64 0)
  obtain ⟨w0, hw0⟩ : ∃ w0, w0 = W.alloc (.cells #[.slice none 0 0, .int .i64 0] 58) := ⟨_, rfl⟩
  rw [← hw0] at hb8 v0 v1 hlow
  obtain ⟨r8, hr8⟩ : ∃ r8, r8 = W.heap.size := ⟨_, rfl⟩
  have g0 := hb8.cell 0
  have g1 := hb8.cell 1
  have g2 := hb8.free 0
  have g3 := hb8.free 1
  rw [← hr8] at v0 v1 g0 g1 g2 g3 hlow
  simp only [List.getElem?_toArray, List.getElem?_cons_zero, List.getElem?_cons_succ, List.setIfInBounds_toArray, List.set_cons_zero, List.set_cons_succ] at v0 v1 g0 g1
  have HF := Lib.hid hlow
  have HR8 := Lib.hid hr8
  rcases h with h | ⟨h1, h⟩ | ⟨h1, h2, h⟩
  · clear hlow hbA hb8 hb9
    go_enter Try.func37, Try.ntmps37
    go_wp2_with fail
    rw [← hw0]
    try rw [← HR8.out]
    clear hw0 hr8
    go_step3
    go_wp2_with fail
    first | exact ⟨rfl, HF.out⟩ | ((try (rw [Exit.noGoto_ret])); refine bodyPost_ret (v := .tuple #[.agg #[.slice none 0 0, .int .i64 0], .int .i64 1]) (by simp [results, Try.results37, go_sem, v0, v1]) rfl ⟨rfl, by rw [← HR8.out]; exact HF.out⟩)
  · have hm1 : (most < 1) = False := eq_false h1
    clear hlow hbA hb8 hb9 h1
    go_enter Try.func37, Try.ntmps37
    go_wp2_with fail
    rw [← hw0]
    try rw [← HR8.out]
    clear hw0 hr8
    go_step3
    go_wp2_with fail
    first | exact ⟨rfl, HF.out⟩ | ((try (rw [Exit.noGoto_ret])); refine bodyPost_ret (v := .tuple #[.agg #[.slice none 0 0, .int .i64 0], .int .i64 1]) (by simp [results, Try.results37, go_sem, v0, v1]) rfl ⟨rfl, by rw [← HR8.out]; exact HF.out⟩)
  · have hm1 : (most < 1) = False := eq_false h1
    have hm2 : ((100 : Int) < most) = False := eq_false h2
    have hm3 : (400 : Int) < (p.size : Int) := by omega
    clear hlow hbA hb8 hb9 h1 h2
    go_enter Try.func37, Try.ntmps37
    go_wp2_with fail
    rw [← hw0]
    try rw [← HR8.out]
    clear hw0 hr8
    go_step3
    go_wp2_with fail
    first | exact ⟨rfl, HF.out⟩ | ((try (rw [Exit.noGoto_ret])); refine bodyPost_ret (v := .tuple #[.agg #[.slice none 0 0, .int .i64 0], .int .i64 1]) (by simp [results, Try.results37, go_sem, v0, v1]) rfl ⟨rfl, by rw [← HR8.out]; exact HF.out⟩)

/-- marks that Since tells nothing of -/
theorem poll_err {P : Nat → Prop} {W : World} {s : Nat} {M : StM} (h0 : StoreAt P W s M) {N : Nat} (hg : SG M N) (hN : N ≤ 900000) (mark : Int) (p : ByteArray) (hp : p.size ≤ 400) (most : Int) (h1 : 1 ≤ most) (h2 : most ≤ 100) (er : Int) (her : (er = 12 ∧ mark < (M.low : Int)) ∨ (er = 13 ∧ (M.last : Int) < mark ∧ (M.low : Int) ≤ mark)) :
    Calls Try.prog 37 #[.pointer (some ⟨s, 0, none⟩), .int .i64 mark, .string p, .int .i64 most] W fun e W' => e = .returned (.tuple #[.agg #[.slice none 0 0, .int .i64 0], .int .i64 er]) ∧ Below W.heap.size W W' := by
  obtain ⟨w0, hw0⟩ : ∃ w0, w0 = W.alloc (.cells #[.slice none 0 0, .int .i64 0] 58) := ⟨_, rfl⟩
  have hbA : Below W.heap.size W w0 := by rw [hw0]; exact (Below.refl _ _).alloc (Nat.le_refl _) _
  have HBX : Hid (Below W.heap.size W w0 ∧ Box w0 W.heap.size 58 #[.slice none 0 0, .int .i64 0]) := Lib.hid ⟨hbA, by rw [hw0]; exact Box.new W _ _⟩
  have HSI : Hid (Calls Try.prog 33 #[.pointer (some ⟨s, 0, none⟩), .int .i64 mark] w0 fun e w1 => e = .returned (.tuple #[.slice none 0 0, .int .i64 er]) ∧ Hid (Below w0.heap.size w0 w1)) := Lib.hid (by
    refine (sinceQ_any (h0.below hbA) hg hN mark).mono ?_
    rintro e w1 ⟨hb, ⟨c1, rfl⟩ | ⟨c0, c1, rfl⟩ | ⟨k2, c1, c2, _⟩⟩
    · have : er = 12 := by omega
      subst this
      exact ⟨rfl, Lib.hid hb⟩
    · have : er = 13 := by omega
      subst this
      exact ⟨rfl, Lib.hid hb⟩
    · exfalso
      have : (M.last : Int) = ((M.low + M.cms.length : Nat) : Int) := rfl
      omega)
  have hpI : (p.size : Int) ≤ 400 := by omega
  have hm1 : (most < 1) = False := eq_false (by omega)
  have hm2 : ((100 : Int) < most) = False := eq_false (by omega)
  have hm3 : ((400 : Int) < (p.size : Int)) = False := eq_false (by omega)
  have her0 : (er == 0) = false := by rw [beq_eq_false_iff_ne]; omega
  obtain ⟨r8, hr8⟩ : ∃ r8, r8 = W.heap.size := ⟨_, rfl⟩
  have HR8 := Lib.hid hr8
  clear h0 hg hp hpI h1 h2 hbA hr8 her
  go_enter Try.func37, Try.ntmps37
  go_wp2_with fail
  rw [← hw0]
  try rw [← HR8.out]
  clear hw0
  go_step3
  go_wp2_with fail
  clear hm1 hm2 hm3
  refine HSI.out.mono ?_
  rintro e w1 ⟨rfl, HB⟩
  have hb8 : Box w1 r8 58 #[.slice none 0 0, .int .i64 0] := by
    rw [HR8.out]
    exact (HB.out.block _ HBX.out.2.lt).trans HBX.out.2
  have hb9 := (hb8.setSame 0 (.slice none 0 0)).setSame 1 (.int .i64 0)
  have v0 := hb9.cell 0
  have v1 := hb9.cell 1
  have g0 := hb8.cell 0
  have g1 := hb8.cell 1
  have g2 := hb8.free 0
  have g3 := hb8.free 1
  simp only [List.getElem?_toArray, List.getElem?_cons_zero, List.getElem?_cons_succ, List.setIfInBounds_toArray, List.set_cons_zero, List.set_cons_succ] at v0 v1 g0 g1
  have h8 : W.heap.size ≤ r8 := by rw [HR8.out]; exact Nat.le_refl _
  have HF := Lib.hid (((HBX.out.1.trans (HB.out.mono HBX.out.1.size)).setCell (p := ⟨r8, 0, none⟩) h8 (.slice none 0 0)).setCell (p := ⟨r8, 1, none⟩) h8 (.int .i64 0))
  clear hb8 hb9 h8 HSI
  go_wp2_with fail
  first | exact ⟨rfl, HF.out⟩ | ((try (rw [Exit.noGoto_ret])); refine bodyPost_ret (v := .tuple #[.agg #[.slice none 0 0, .int .i64 0], .int .i64 er]) (by simp [results, Try.results37, go_sem, v0, v1]) rfl ⟨rfl, HF.out⟩)

end Go.Proofs.Ytookplnegfheeaa.wT
end
