/-
  store.Sorted: its walk.
-/
import Derived.Test.YtcebnoapgceodaaStSo
namespace Go.Proofs.Ytcebnoapgceodaa.sT
open Go.RowKit Go.Proofs.Ytcebnoapgceodaa.tC Go.Sort Go.ChangeMaps Go.MapKept Go.WideMaps

set_option linter.unusedVariables false
set_option linter.unusedSimpArgs false

/-- writes in a map, by their keys -/
def WMap (W wr : World) (b n : Nat) (l : List Wr) : Prop := MapAt 9 wr b n (toF (l.map wkv)) ∧ W.heap.size ≤ b ∧ Below W.heap.size W wr
theorem WMap.next {W wr : World} {b n : Nat} {l : List Wr} (h : WMap W wr b n l) (hr : RiseW l) (x : Wr) (hx : x.key.size ≤ maxLen) (hn : n < 1000000) : ∃ w', (Instr.mapUpdate 157 (.map (some b)) (.string x.key) (.agg (wrcells x).toArray)).run Try.prog wr = .ok () w' ∧ WMap W w' b (n + 1) (putWr l x) := by
  obtain ⟨hm, hb, hbl⟩ := h
  obtain ⟨w', hrun, hm2, hg⟩ := hm.store (e := 48) Try.underlying9 Try.underlying157 hn x.key hx (.agg (wrcells x).toArray)
  rw [put_map ((riseW_keys l).2 hr), ← putWr_kv] at hm2
  exact ⟨w', hrun, hm2, hb, hbl.grown hg hbl.size fun q hq => by have := Option.some.inj hq; omega⟩
theorem WMap.low {W wr w' : World} {b n : Nat} {l : List Wr} (h : WMap W wr b n l) (hb : Below wr.heap.size wr w') : WMap W w' b n l :=
  ⟨h.1.kept (hb.block _ h.1.lt), h.2.1, h.2.2.trans (hb.mono h.2.2.size)⟩

/-- between two rounds of the range over the map -/
def SoI (W : World) (b r n : Nat) (l : List Wr) (D0 : DataW Value) (v : Value) (wr : World) : Prop :=
  ∃ (left : Lit → Bool) (cnt : Nat) (ps : List Wr), wr.ranges Try.prog 9 RV b r n D0 left cnt ∧ ps.Perm (cameW left l) ∧ (∃ a c, v = .slice (some ⟨a, 0, none⟩) ps.length c) ∧ RowK 48 3 (b + 1) wr v ps.length (ps.flatMap wrcells) ∧ Below W.heap.size W wr ∧ r + 1 ≤ wr.heap.size

theorem make0 (n : Nat) (hn : n ≤ 1000000) : ∃ arr : Array Value, arr.size = n * 3 ∧ ∀ w, (Instr.makeSlice 22 (.int .i64 0) (.int .i64 (n : Int))).run Try.prog w = .ok (.slice (some ⟨w.heap.size, 0, none⟩) 0 n) (w.alloc (.cells arr 48)) := by
  obtain ⟨i, hi, hz, hi1, hi2⟩ := info_parts infoWr
  refine ⟨madeCells (Value.agg #[.string ⟨#[]⟩, .string ⟨#[]⟩, .bool false]).cells (n * 3), by rw [size_madeCells], fun w => ?_⟩
  have h2 : i.bytes * n ≤ 200 * 1000000 := by rw [hi2]; omega
  have h := run_makeSlice (P := Try.prog) w 22 48 i _ Try.underlying22 hi hz .i64 .i64 0 (n : Int) (by omega) (by omega) (by rw [hi1]; simp only [Int.toNat_natCast]; omega) (by rw [← Int.natCast_mul]; omega) (by omega)
  rw [hi1] at h
  simpa using h

/-- what Sorted answers -/
def SortedP (W : World) (ws : List Wr) (e : Ending) (W' : World) : Prop := ∃ a c, e = .returned (.slice a (sortW ws).length c) ∧ RowK 48 3 W.heap.size W' (.slice a (sortW ws).length c) (sortW ws).length ((sortW ws).flatMap wrcells) ∧ Below W.heap.size W W'

attribute [-go_sem] Builtin.append_
set_option maxHeartbeats 800000 in
set_option maxRecDepth 100000 in
theorem sorted_any {W : World} {a : Option Addr} {len cap : Nat} {ws : List Wr} (h : WrsIs W a ws) (hl : ws.length = len) (hle : len ≤ 100000) (hk : ∀ x ∈ ws, x.key.size ≤ maxLen) :
    Calls Try.prog 52 #[.slice a len cap] W (SortedP W ws) := by
  subst hl
  have hmm := @run_makeMap Try.prog
  obtain ⟨b, hb⟩ : ∃ b, b = W.heap.size := ⟨_, rfl⟩
  have H0 : Hid (WMap W (W.alloc (.map #[] 0)) b 0 (sortW (ws.take 0))) := Lib.hid ⟨by rw [hb]; exact MapAt.made _ W, by omega, (Below.refl _ _).alloc (Nat.le_refl _) _⟩
  have HB := Lib.hid hb
  have HW := Lib.hid (And.intro h hk)
  obtain ⟨Q, hQ⟩ : ∃ Q, Q = SortedP W ws := ⟨_, rfl⟩
  have HQ := Lib.hid hQ
  rw [← hQ]
  clear h hk hQ
  go_enter Try.func52, Try.ntmps52
  go_wp2_with fail
  rw [← hb]
  clear hb
  go_loopw [12] (fun iv wr => ∃ z : Nat, z ≤ ws.length ∧ iv = .int .i64 (z : Int) ∧ Hid (WMap W wr b z (sortW (ws.take z)))) (fun iv _ => ws.length - (intOf iv).toNat)
  case atStart => exact ⟨0, Nat.zero_le _, rfl, H0⟩
  case round =>
    obtain ⟨z, hz, rfl, hst⟩ := hrel
    clear H0
    by_cases hzl : z < ws.length
    · have hzI : (z : Int) < (ws.length : Int) := by omega
      obtain ⟨b2, off2, rfl, hblt2, ⟨m0, m1, m2⟩, _⟩ := HW.out.1.at_ z hzl
      have hlow : Below W.heap.size W wr := hst.out.2.2
      replace m0 := (hlow.cell (p := ⟨b2, off2 + z * 3, none⟩) hblt2).trans m0
      replace m1 := (hlow.cell (p := ⟨b2, off2 + z * 3 + 1, none⟩) hblt2).trans m1
      replace m2 := (hlow.cell (p := ⟨b2, off2 + z * 3 + 2, none⟩) hblt2).trans m2
      obtain ⟨x, hx⟩ : ∃ x, x = ws[z] := ⟨_, rfl⟩
      rw [← hx] at m0 m1 m2
      have hxk : x.key.size ≤ maxLen := HW.out.2 x (by rw [hx]; exact List.getElem_mem hzl)
      have hb3 : Below wr.heap.size wr (wr.alloc (.cells #[.string x.key, .string x.val, .bool x.gone] 48)) := (Below.refl _ _).alloc (Nat.le_refl _) _
      obtain ⟨w5, hrun, hK5⟩ := (hst.out.low hb3).next (sortW_rise _) x hxk (by omega)
      have HN : Hid (WMap W w5 b (z + 1) (sortW (ws.take (z + 1)))) := Lib.hid (by
        rw [List.take_succ_eq_append_getElem hzl, ← hx, sortW_snoc]
        exact hK5)
      obtain ⟨xk, xv, xg⟩ := x
      simp only [wrcells] at m0 m1 m2 hrun
      clear hx hst hxk hb3 hK5 hlow
      go_wp2_with fail
      go_roundw
      case rel => exact ⟨z + 1, by omega, by go_num, HN⟩
      case measure => simp [intOf]; omega
    · obtain rfl : z = ws.length := by omega
      have hzI : ¬ (ws.length : Int) < (ws.length : Int) := by omega
      have hM : WMap W wr b ws.length (sortW ws) := by have := hst.out; rwa [List.take_length] at this
      clear hst hzl hz
      have hrl := sortW_rise ws
      have hll := sortW_len ws
      obtain ⟨l, hl⟩ : ∃ l, l = sortW ws := ⟨_, rfl⟩
      rw [← hl] at hM hrl hll
      have HL := Lib.hid hl
      have hlen : ∀ ty, (Builtin.len_ #[157] ty #[.map (some b)]).run Try.prog wr = .ok (.int .i64 (l.length : Int)) wr := fun ty => by
        have := World.ownsMap.len (P := Try.prog) hM.1 Try.underlying157 ty
        rwa [toF_length_map, List.length_map] at this
      obtain ⟨arr, harr, hmk⟩ := make0 l.length (by omega)
      have hMA : WMap W (wr.alloc (.cells arr 48)) b ws.length l := hM.low ((Below.refl _ _).alloc (Nat.le_refl _) _)
      obtain ⟨w0, hrr, hrg0, hg0, hs0⟩ := World.ownsMap.range hMA.1 law_s Try.underlying157
      have hblt := hM.1.lt
      have HRL := Lib.hid (And.intro hrl hll)
      have HST : Hid (SoI W b (wr.alloc (.cells arr 48)).heap.size ws.length l (dm (toF (l.map wkv))) (.slice (some ⟨wr.heap.size, 0, none⟩) 0 l.length) w0) := Lib.hid (by
        refine ⟨_, _, [], hrg0, by rw [came_none], ⟨_, _, rfl⟩, ?_, hMA.2.2.grown hg0 hMA.2.2.size (fun q hq => by cases hq), by omega⟩
        have hr0 : RowK 48 3 (b + 1) (wr.alloc (.cells arr 48)) (.slice (some ⟨wr.heap.size, 0, none⟩) 0 l.length) 0 [] :=
          RowK.mk (Box.new wr 48 arr) harr (by omega) (Nat.zero_le _) (by unfold maxLen; omega) (by simp) (fun q hq => absurd hq (by simp)) (fun u hu => by simp at hu)
        exact hr0.keep fun q hq => ⟨hg0.block q (by have := (hr0.lt q hq).2; exact this) (by simp), (hr0.lt q hq).1⟩)
      obtain ⟨r, hr⟩ : ∃ r, r = (wr.alloc (.cells arr 48)).heap.size := ⟨_, rfl⟩
      rw [← hr] at HST hrr
      have hbr : b < r := by rw [hr, World.size_alloc]; omega
      clear hM hMA hrg0 hg0 hs0 hr hrl hll hl
      go_wp2_with fail
      clear hrr hmk hlen
      go_loopw [6] (fun v wr => Hid (SoI W b r ws.length l (dm (toF (l.map wkv))) v wr)) (fun _ wr => wr.rangeLeft b r)
      case atStart => exact HST
      case round =>
        obtain ⟨left, cnt, ps, hrg, hperm, ⟨ga, gc, e6⟩, hrow, hbel, hsz⟩ := hrel.out
        subst e6
        have hpl : ps.length ≤ 100000 := by
          rw [hperm.length_eq]
          unfold cameW
          have := List.length_filter_le (fun x : Wr => !left (.string x.key.data.toList)) l
          have := HRL.out.2
          omega
        have hqr : ∀ q, (Value.slice (some ⟨ga, 0, none⟩) ps.length gc).ownBlock = some q → q ≠ r := fun q hq e => by
          obtain ⟨o, h1, h2⟩ := hrg.iter_walk
          obtain ⟨arr2, h3⟩ := rowk_box hrow hq
          rw [e] at h3
          rw [show wr.heap[r]? = some (.cells arr2 48 (0, 0)) from h3] at h1
          injection h1 with h1
          subst h1
          cases h2
        have HX := Lib.hid (And.intro hperm (And.intro hrow (And.intro hbel (And.intro hsz hqr))))
        clear hrel HST hperm hrow hbel hsz hqr
        go_wp2_with (first
          | (at_next; refine wpList_next_ranges _ rfl _ rfl 9 law_s RV Value.string (fun v => v) (fun key kl hk => by obtain ⟨s, e, _⟩ := Go.WideMaps.string_of_keyOf Try.underlying9 hk; exact ⟨s, e⟩) (fun v _ _ => ⟨v, rfl⟩) b r ws.length (dm (toF (l.map wkv))) left cnt rfl hrg ?_ ?_)
          | fail)
        · intro hc0 hl0
          obtain ⟨q1, q2, q3, q4, q5⟩ := HX.out
          rw [came_all hl0] at q1
          have hpll := q1.length_eq
          have HS := Lib.hid (sortFunc_any q2 HRL.out.1 q1 (by omega))
          have HF : Hid (∀ w5, RowK 48 3 (b + 1) w5 (.slice (some ⟨ga, 0, none⟩) ps.length gc) ps.length (l.flatMap wrcells) → wr.grownBy w5 (some ga) → Q (.returned (.slice (some ⟨ga, 0, none⟩) ps.length gc)) w5) := Lib.hid fun w5 k1 k2 => by
            rw [HQ.out]
            have hga := (q2.lt ga rfl).1
            rw [hpll] at k1 ⊢
            rw [HL.out] at k1 ⊢
            exact ⟨_, _, rfl, k1.keep fun q hq => ⟨rfl, by have := (k1.lt q hq).1; have := HB.out; omega⟩, q3.grown k2 q3.size fun q hq => by have := Option.some.inj hq; have := HB.out; omega⟩
          clear hrg hl0 hc0 q1 q2 q3 q4 q5 HX hpll hpl
          go_wp2_with fail
          refine HS.out.mono ?_
          rintro e w5 ⟨rfl, k1, k2⟩
          have HF5 := Lib.hid (HF.out w5 k1 k2)
          clear k1 k2 HF HS
          go_wp2
          first | exact HF5.out | (go_ret; exact HF5.out)
        · intro x cv kl ya yb w1 cnt1 hkey hlk hRv hat hrg1 hlt hg1 hs1 hen
          obtain ⟨q1, q2, q3, q4, q5⟩ := HX.out
          obtain ⟨rfl, hxs, hgk⟩ := entry_map hkey hRv hat
          obtain ⟨y, hy, hye⟩ := List.mem_map.1 (tC.getK_mem hgk)
          have e1 : x = y.key := (congrArg Prod.fst hye).symm
          have e2 : cv = .agg (wrcells y).toArray := (congrArg Prod.snd hye).symm
          subst e1; subst e2
          have hp2 := came_step HRL.out.1 hy hlk
          have hrow1 : RowK 48 3 (b + 1) w1 (.slice (some ⟨ga, 0, none⟩) ps.length gc) ps.length (ps.flatMap wrcells) := q2.keep fun q hq => ⟨hg1.block q (q2.lt q hq).2 fun e => q5 q hq (Option.some.inj e), (q2.lt q hq).1⟩
          have hb1 : Below W.heap.size W w1 := q3.grown hg1 q3.size fun q hq => by have := Option.some.inj hq; have := HB.out; omega
          have hbA : Below w1.heap.size w1 ((w1.alloc (.cells (wrcells y).toArray 48)).alloc (.cells (wrcells y).toArray 48)) := ((Below.refl _ w1).alloc (Nat.le_refl _) _).alloc (by simp) _
          have hz1 : r + 1 ≤ w1.heap.size := by omega
          obtain ⟨a2, c2, W2, hrun, hrow2, hup⟩ := app_wr ((w1.alloc (.cells (wrcells y).toArray 48)).alloc (.cells (wrcells y).toArray 48)) _ ps (hrow1.below hbA) y (w1.alloc (.cells (wrcells y).toArray 48)).heap.size (heap_alloc_new _ _) (by omega) (by have := hbA.size; omega) 22
          have HN : Hid (W2.rangeLeft b r < wr.rangeLeft b r ∧ SoI W b r ws.length l (dm (toF (l.map wkv))) (.slice a2 (ps.length + 1) c2) W2) := Lib.hid (by
            have hne : ∀ q, (Value.slice (some ⟨ga, 0, none⟩) ps.length gc).ownBlock = some q → b < q ∧ q ≠ r := fun q hq => ⟨by have := (q2.lt q hq).1; omega, q5 q hq⟩
            have hrg2 := ((hrg1.alloc (.cells (wrcells y).toArray 48)).alloc (.cells (wrcells y).toArray 48)).kept hup.1 (fun e => by have := (hne b e.symm).1; omega) (fun e => (hne r e.symm).2 rfl)
            refine ⟨by rw [hrg2.left_eq, hrg.left_eq]; exact hlt, _, _, ps ++ [y], hrg2, ?_, ?_, ?_, ?_, ?_⟩
            · exact (List.perm_append_singleton _ _).trans ((q1.cons _).trans hp2.symm)
            · obtain ⟨g2, e, _⟩ := hrow2.at_ (by omega)
              rw [List.length_append, List.length_singleton, e]
              exact ⟨_, _, rfl⟩
            · rw [List.length_append, List.length_singleton]
              exact hrow2
            · exact (hb1.trans (hbA.mono hb1.size)).grown hup.1 (by have := hb1.size; have := hbA.size; omega) fun q hq => by have := (hne q hq).1; have := HB.out; omega
            · have := hup.1.size; have := hbA.size; omega)
          obtain ⟨yk, yv, yg⟩ := y
          simp only [wrcells, World.size_alloc] at hrun hen
          clear hrg hlk hRv hat hrg1 hlt hg1 hs1 hkey hgk hy hye hp2 hrow1 hb1 hbA hz1 hrow2 hup q1 q2 q3 q4 q5 HX hxs hpl
          go_wp2_with fail
          go_roundw
          case rel => exact Lib.hid HN.out.2
          case measure => exact HN.out.1

end Go.Proofs.Ytcebnoapgceodaa.sT
