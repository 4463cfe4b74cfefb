/-
  TreeOrders: the order in which keys come doesn't matter.
-/
import Derived.Test.YtdijbgkfdfchoaaTOrd1
import Derived.Deep.RegionWith
import Derived.Deep.RegionHeld
import Derived.OwnWalkIn
import Derived.RangeFuncBox
namespace Go.Proofs.Ytdijbgkfdfchoaa.treeOrders
open Go.RowKit Go.Proofs.Ytdijbgkfdfchoaa.tI Go.Proofs.Ytdijbgkfdfchoaa.tRow

set_option linter.unusedVariables false
set_option linter.unusedSimpArgs false
attribute [local go_sem] Oper.semAt_some

theorem and_65535 (n : Int) : bits .and .i64 n 65535 = n % 65536 := by
  have hc : (BitVec.ofInt 64 65535).toNat = 2 ^ 16 - 1 := by decide
  have key : (BitVec.ofInt 64 n &&& BitVec.ofInt 64 65535).toNat = (n % ((2 ^ 64 : Nat) : Int)).toNat % 2 ^ 16 := by
    rw [BitVec.toNat_and, BitVec.toNat_ofInt, hc, Nat.and_two_pow_sub_one_eq_mod]
  show IntKind.i64.wrap ((BitVec.ofInt 64 n &&& BitVec.ofInt 64 65535).toNat : Nat) = n % 65536
  rw [key, IntKind.wrap_i64]
  omega

theorem from_all (m : List KV) : fromK m ⟨#[]⟩ = m := by
  unfold fromK
  refine List.filter_eq_self.2 fun p _ => ?_
  have : ¬ Lt p.1 ⟨#[]⟩ := by unfold Lt; exact List.not_lt_nil _
  simp [this]

theorem one_new (w : World) (u : Value) (e : TypeId) : ∀ j x, [u][j]? = some x → (w.alloc (.cells #[u] e)).cell? ((⟨w.heap.size, 0, none⟩ : Addr).add j) = some x := by
  intro j x hj
  match j, hj with
  | 0, hj => simp at hj; subst hj; simp [Addr.add]

/-- a statement that does not panic, whatever would follow a panic -/
theorem wp_calm {P : Program} {c : Code} {K : Act → World → Prop} {Q' : Exit → Act → World → Prop} {a : Act} {w : World} (h : c.wp P (Exit.then K (fun _ _ _ => False)) a w) : c.wp P (Exit.then K Q') a w := by
  refine wp_mono h ?_
  intro e a' w' hq
  cases e with
  | normal => exact hq
  | exit id => exact hq.elim
  | goto l => exact hq.elim
  | ret => exact hq.elim
  | panic ch => exact hq.elim
  | outgrown => exact hq.elim

set_option maxHeartbeats 4000000 in
set_option maxRecDepth 100000 in
theorem walk {w : World} (a0 : Option Addr) (len0 cap0 : Nat) (hr0 : ∃ ps, Came w a0 len0 cap0 ps) (a1 : Int) (w1 : (Lit.int .i64 a1).wf = true) (a2 : Option Addr) (len2 cap2 : Nat) (hr2 : ∃ ps, Came w a2 len2 cap2 ps) :
    Calls Try.prog 6 #[.slice a0 len0 cap0, .int .i64 a1, .slice a2 len2 cap2] w fun e W' => e = .returned (.bool true) ∧ Below w.heap.size w W' := by
  obtain ⟨ks, hs0, hl0, _, hm0, _, hz0⟩ := hr0
  obtain ⟨os, hs2, hl2, _, hm2, _, hz2⟩ := hr2
  have hhead := tI.head_any (w.alloc (.cells #[.bool false] 4))
  have HA : Hid (∀ W, Below w.heap.size w W → ∀ k, k < len0 → ∃ b off key, a0 = some ⟨b, off, none⟩ ∧ W.cell? ⟨b, off + k, none⟩ = some (.string key) ∧ ks[k]? = some key ∧ key.size ≤ maxLen) := Lib.hid fun W hb k hk => by
    have hk2 : k < ks.length := by omega
    rcases hs0 with h | ⟨b, off, e, hlt, hc⟩
    · rw [h] at hk2; simp at hk2
    · exact ⟨b, off, ks[k], e, (hb.cell (p := ⟨b, off + k, none⟩) hlt).trans (hc k hk2), List.getElem?_eq_getElem hk2, hz0 _ (List.getElem_mem hk2)⟩
  have HO : Hid (∀ W, Below w.heap.size w W → ∀ k, k < len2 → ∃ b off key, a2 = some ⟨b, off, none⟩ ∧ W.cell? ⟨b, off + k, none⟩ = some (.string key) ∧ os[k]? = some key ∧ key.size ≤ maxLen) := Lib.hid fun W hb k hk => by
    have hk2 : k < os.length := by omega
    rcases hs2 with h | ⟨b, off, e, hlt, hc⟩
    · rw [h] at hk2; simp at hk2
    · exact ⟨b, off, os[k], e, (hb.cell (p := ⟨b, off + k, none⟩) hlt).trans (hc k hk2), List.getElem?_eq_getElem hk2, hz2 _ (List.getElem_mem hk2)⟩
  have HL0 := Lib.hid hl0
  have HL2 := Lib.hid hl2
  have hb0 := (Below.refl _ w).alloc (Nat.le_refl _) (.cells #[.bool false] 4)
  have hB0 := Boxed.new w 4 (.bool false)
  have HP0 := Lib.hid (And.intro hb0 hB0)
  clear hs0 hs2 hz0 hz2 hl0 hl2 hb0 hB0
  by_cases h100 : (100 : Int) < (len0 : Int)
  · go_enter Try.func6, Try.ntmps6
    go_wp2_with fail
    refine hhead.mono ?_
    rintro e w1 ⟨rfl, hb1⟩
    have hbx : Boxed w1 w.heap.size 4 (.bool false) := (hb1.block _ HP0.out.2.lt).trans HP0.out.2
    have hc := hbx.cell
    have hf := hbx.frozen
    have HB1 := Lib.hid (And.intro (HP0.out.1.trans (hb1.mono HP0.out.1.size)) hbx)
    clear hb1 hhead hbx
    go_wp2
    all_goals
      have hc5 := (HB1.out.2.set (.bool true)).cell
      refine bodyPost_ret (v := .bool true) ?_ rfl ⟨rfl, HB1.out.1.setCell (p := ⟨w.heap.size, 0, none⟩) (Nat.le_refl _) _⟩
      simp [results, Try.f6, go_sem, hc5]
  by_cases h101 : (100 : Int) < (len2 : Int)
  · go_enter Try.func6, Try.ntmps6
    go_wp2_with fail
    refine hhead.mono ?_
    rintro e w1 ⟨rfl, hb1⟩
    have hbx : Boxed w1 w.heap.size 4 (.bool false) := (hb1.block _ HP0.out.2.lt).trans HP0.out.2
    have hc := hbx.cell
    have hf := hbx.frozen
    have HB1 := Lib.hid (And.intro (HP0.out.1.trans (hb1.mono HP0.out.1.size)) hbx)
    clear hb1 hhead hbx
    go_wp2
    all_goals
      have hc5 := (HB1.out.2.set (.bool true)).cell
      refine bodyPost_ret (v := .bool true) ?_ rfl ⟨rfl, HB1.out.1.setCell (p := ⟨w.heap.size, 0, none⟩) (Nat.le_refl _) _⟩
      simp [results, Try.f6, go_sem, hc5]
  by_cases h00 : len0 = 0
  · subst h00
    go_enter Try.func6, Try.ntmps6
    go_wp2_with fail
    refine hhead.mono ?_
    rintro e w1 ⟨rfl, hb1⟩
    have hbx : Boxed w1 w.heap.size 4 (.bool false) := (hb1.block _ HP0.out.2.lt).trans HP0.out.2
    have hc := hbx.cell
    have hf := hbx.frozen
    have HB1 := Lib.hid (And.intro (HP0.out.1.trans (hb1.mono HP0.out.1.size)) hbx)
    clear hb1 hhead hbx
    go_wp2
    all_goals
      have hc5 := (HB1.out.2.set (.bool true)).cell
      refine bodyPost_ret (v := .bool true) ?_ rfl ⟨rfl, HB1.out.1.setCell (p := ⟨w.heap.size, 0, none⟩) (Nat.le_refl _) _⟩
      simp [results, Try.f6, go_sem, hc5]
  have hne : ¬ (len0 : Int) = 0 := by omega
  have hne2 : ((len0 : Int) == 0) = false := by rw [beq_eq_false_iff_ne]; exact hne
  obtain ⟨tn, htn⟩ : ∃ tn : Nat, a1 % 65536 = (tn : Int) := ⟨(a1 % 65536).toNat, by omega⟩
  have hm1 := and_65535 a1
  rw [htn] at hm1
  obtain ⟨r, hr⟩ : ∃ r : Nat, r = tn % len0 := ⟨_, rfl⟩
  have hr2 : r < len0 := by rw [hr]; exact Nat.mod_lt _ (by omega)
  have hrm : Int.tmod (tn : Int) (len0 : Int) = (r : Int) := by rw [hr, Int.tmod_eq_emod_of_nonneg (by omega)]; exact (Int.natCast_emod _ _).symm
  clear htn hr w1
  refine (callsIn_wide (n := 3)).1 (callsIn_of_wp_marks Try.func6 rfl trivial ?_)
  simp only [Try.ntmps6, List.size_toArray, List.length_cons, List.length_nil, Nat.reduceAdd, Nat.reduceSub, Array.replicate_succ, Array.replicate_zero, List.push_toArray, List.append_toArray, List.nil_append, List.cons_append]
  refine (wpIn_wide (n := 3)).2 ?_
  go_wp2_with fail
  refine hhead.mono ?_
  rintro e w1 ⟨rfl, hb1⟩
  have hbx : Boxed w1 w.heap.size 4 (.bool false) := (hb1.block _ HP0.out.2.lt).trans HP0.out.2
  have HB1 := Lib.hid (And.intro (HP0.out.1.trans (hb1.mono HP0.out.1.size)) hbx)
  clear hb1 hhead hbx
  have hmm := @run_makeMap Try.prog
  go_wp2_with fail
  obtain ⟨q, hq⟩ : ∃ q, q = w1.heap.size := ⟨_, rfl⟩
  have HST : Hid (L1 w q ks 0 (((((w1.alloc (.map #[] 0)).alloc (.cells #[.map (some w1.heap.size)] 50)).alloc (.cells #[.slice none 0 0, .int .i64 0] 47)).alloc (.cells #[.slice none 0 0, .int .i64 0] 47)))) := Lib.hid (by
    have hz : w.heap.size < q := by rw [hq]; exact HB1.out.2.lt
    obtain ⟨hb, hx⟩ := HB1.out
    have hb1 := hb.alloc hb.size (.map #[] 0)
    have hb2 := hb1.alloc hb1.size (.cells #[.map (some w1.heap.size)] 50)
    have hb3 := hb2.alloc hb2.size (.cells #[.slice none 0 0, .int .i64 0] 47)
    have hb4 := hb3.alloc hb3.size (.cells #[.slice none 0 0, .int .i64 0] 47)
    have c2 := ((Boxed.new (w1.alloc (.map #[] 0)) 50 (.map (some w1.heap.size))).alloc (.cells #[.slice none 0 0, .int .i64 0] 47)).alloc (.cells #[.slice none 0 0, .int .i64 0] 47)
    rw [World.size_alloc] at c2
    have hM := MapAt.made 9 w1
    have hk := ((((Below.refl _ (w1.alloc (.map #[] 0))).alloc (Nat.le_refl _) (.cells #[.map (some w1.heap.size)] 50)).alloc (by simp) (.cells #[.slice none 0 0, .int .i64 0] 47)).alloc (by simp <;> omega) (.cells #[.slice none 0 0, .int .i64 0] 47)).block w1.heap.size (by simp)
    have t1 := tree_new (n := w1.heap.size + 2) ((w1.alloc (.map #[] 0)).alloc (.cells #[.map (some w1.heap.size)] 50)) (by simp)
    have t2 := tree_new (n := w1.heap.size + 3) (((w1.alloc (.map #[] 0)).alloc (.cells #[.map (some w1.heap.size)] 50)).alloc (.cells #[.slice none 0 0, .int .i64 0] 47)) (by simp)
    have hk2 := fun x h => ((Below.refl _ (((w1.alloc (.map #[] 0)).alloc (.cells #[.map (some w1.heap.size)] 50)).alloc (.cells #[.slice none 0 0, .int .i64 0] 47))).alloc (Nat.le_refl _) (.cells #[.slice none 0 0, .int .i64 0] 47)).block x h
    simp only [World.size_alloc] at t1 t2 hk2
    refine ⟨⟨hb4, (((hx.alloc _).alloc _).alloc _).alloc _, by rw [hq]; exact c2, hz⟩, ⟨[], 0, Nat.le_refl _, ?_, Is.nil⟩, ?_, ?_⟩
    · rw [hq]; exact hM.kept hk
    · rw [hq]
      refine t1.keep fun x hx hl => ⟨hk2 x (by simp only [World.size_alloc] at hl; omega), ?_⟩
      simp only [World.size_alloc] at hl
      exact ⟨hx, by omega⟩
    · rw [hq]
      refine t2.keep fun x hx hl => ⟨rfl, ?_⟩
      simp only [World.size_alloc] at hl
      show x = w1.heap.size + 3
      have : w1.heap.size + 3 ≤ x := hx
      omega)
  have e1 : decide ((100 : Int) < (len0 : Int)) = false := decide_eq_false (by omega)
  have e2 : decide ((100 : Int) < (len2 : Int)) = false := decide_eq_false (by omega)
  try simp only [e1, e2, Bool.or_false]
  clear e1 e2
  rw [← hq] at HST ⊢
  have HLEN : Hid (¬ (100 : Int) < (len0 : Int) ∧ ¬ (100 : Int) < (len2 : Int)) := Lib.hid ⟨by omega, by omega⟩
  have HQ := Lib.hid hq
  clear h100 h101 hne hne2 hm1 hrm HB1 HP0 hmm hq
  have hl0100 : len0 ≤ 100 := by have := HLEN.out.1; omega
  have hl2100 : len2 ≤ 100 := by have := HLEN.out.2; omega
  go_loopw [57] (fun i wr => ∃ k, k ≤ len0 ∧ i = .int .i64 (k : Int) ∧ Hid (L1 w q ks k wr)) (fun i _ => len0 - (intOf i).toNat)
  case atStart => exact ⟨0, Nat.zero_le _, rfl, HST⟩
  case round =>
    obtain ⟨k, hk, rfl, hst⟩ := hrel
    clear HST
    have hcm := hst.out.1.2.2.1.cell
    have hcp := hst.out.1.2.1.cell
    have hfp := hst.out.1.2.1.frozen
    by_cases hlt : k < len0
    · obtain ⟨b, off, key, rfl, hcell, hke, hks⟩ := HA.out wr hst.out.1.1 k hlt
      by_cases h40 : (40 : Int) < (key.size : Int)
      · clear HA HO hke
        go_wp2
        all_goals
          have hc5 := (hst.out.1.2.1.set (.bool true)).cell
          refine ⟨.bool true, ?_, rfl, hst.out.1.1.setCell (p := ⟨w.heap.size, 0, none⟩) (Nat.le_refl _) _⟩
          simp [results, Try.f6, go_sem, hc5]
      · obtain ⟨z, bb, hlk, hyes, hno⟩ := hst.out.step (by omega) hke hks
        cases bb
        · obtain ⟨w4, hmu, hst4⟩ := hno rfl
          have HS4 := Lib.hid hst4
          clear hst hst4 hyes hno HA HO hke
          go_wp2
          go_roundw
          case rel => exact ⟨k + 1, by omega, by simp, HS4⟩
          case measure => simp [intOf]; omega
        · have HS4 := Lib.hid (hyes rfl)
          clear hst hyes hno HA HO hke
          go_wp2
          go_roundw
          case rel => exact ⟨k + 1, by omega, by simp, HS4⟩
          case measure => simp [intOf]; omega
    · obtain rfl : k = len0 := by omega
      clear hcm hcp hfp
      obtain ⟨hBs, ⟨V, c, _, hM, hI⟩, hTA, hTB⟩ := hst.out
      have HV := Lib.hid hI
      have HG : Hid (∀ x y z, fst ks k x y → fst ks k x z → y = z) := Lib.hid fun x y z h1 h2 => hI.one h1 h2
      have HST : Hid (L2 w q V (some_ (fst ks k) (fun i => ks[i]?) 0) 0 wr) := Lib.hid ⟨hBs, ⟨c, hM⟩, ⟨[], hTA, Is.nil.congr fun x y => ⟨False.elim, fun ⟨_, i, hi, _⟩ => by omega⟩, by decide⟩, hTB⟩
      clear hst hBs hM hI hTA hTB
      go_wp2_with fail
      go_loopw [79] (fun i wr => ∃ j, j ≤ k ∧ i = .int .i64 (j : Int) ∧ Hid (L2 w q V (some_ (fst ks k) (fun i => ks[i]?) j) j wr)) (fun i _ => k - (intOf i).toNat)
      case atStart => exact ⟨0, Nat.zero_le _, rfl, HST⟩
      case round =>
        obtain ⟨j, hj, rfl, hst⟩ := hrel
        clear HST
        by_cases hlt2 : j < k
        · obtain ⟨b, off, key, rfl, hcell, hke, hks⟩ := HA.out wr hst.out.1.1 j hlt2
          have hcm := hst.out.1.2.2.1.cell
          obtain ⟨v0, hv0⟩ := fst_has hke k hlt2
          obtain ⟨_, _, _, z, hz, _⟩ := fst_is hv0
          subst hz
          have hgk := (HV.out.get key _).2 hv0
          have hlk : (Instr.lookup 50 (.map (some q)) (.string key) false).run Try.prog wr = .ok (.int .i64 (z : Int)) wr := by
            obtain ⟨c, hM⟩ := hst.out.2.1
            have h1 := look1 hM key hks
            rw [hgk] at h1
            exact h1
          have HPut := Lib.hid (hst.out.put (by omega) key (z : Int) (some_next HG.out hke hv0))
          clear hst HA HO hke hv0 hgk hlt
          go_wp2_with fail
          refine HPut.out.mono ?_
          rintro e w3 ⟨⟨bb, rfl⟩, hst3⟩
          have HS4 := Lib.hid hst3
          clear hst3 HPut
          go_wp2
          go_roundw
          case rel => exact ⟨j + 1, by omega, by simp, HS4⟩
          case measure => simp [intOf]; omega
        · obtain rfl : j = k := by omega
          obtain ⟨lsA, hIA, hL3⟩ := hst.out.turn (g := others os 0) (fun x y ⟨⟨i, hi, _⟩, _⟩ => by omega)
          have HIA : Hid (Is lsA.flatten (fst ks j)) := Lib.hid (hIA.congr fun x y => ⟨And.left, fun h => ⟨h, by obtain ⟨i, h1, h2, _⟩ := fst_is h; exact ⟨i, h1, h2⟩⟩⟩)
          obtain ⟨R, hR⟩ : ∃ R, R = wr.heap.size := ⟨_, rfl⟩
          rw [← hR] at hL3
          have HST := Lib.hid hL3
          clear hst hIA hL3 hR hlt hlt2
          go_wp2_with fail
          go_loopw [92] (fun i wr => ∃ m, m ≤ len2 ∧ i = .int .i64 (m : Int) ∧ Hid (L3 w q R V lsA (others os m) m wr)) (fun i _ => len2 - (intOf i).toNat)
          case atStart => exact ⟨0, Nat.zero_le _, rfl, HST⟩
          case round =>
            obtain ⟨m, hm, rfl, hst⟩ := hrel
            clear HST
            by_cases hlt3 : m < len2
            · obtain ⟨b, off, key, rfl, hcell, hke, hks⟩ := HO.out wr hst.out.1.1 m hlt3
              have HPut := Lib.hid (hst.out.put (by omega) key (-1) (others_next hke))
              clear hst HA HO hke
              go_wp2_with fail
              refine HPut.out.mono ?_
              rintro e w3 ⟨⟨bb, rfl⟩, hst3⟩
              have HS4 := Lib.hid hst3
              clear hst3 HPut
              go_wp2
              go_roundw
              case rel => exact ⟨m + 1, by omega, by simp, HS4⟩
              case measure => simp [intOf]; omega
            · obtain rfl : m = len2 := by omega
              have HST : Hid (L3 w q R V lsA (over (fst ks j) (others os m) (fun i => ks[(i + r) % j]?) 0) (m + 0) wr) := Lib.hid (hst.out.congr fun x y => ⟨fun h => .inr ⟨fun i hi => by omega, h⟩, fun h => by
                rcases h with ⟨_, i, hi, _⟩ | ⟨_, h⟩
                · omega
                · exact h⟩)
              clear hst hlt3
              go_wp2_with fail
              go_loopw [102] (fun i wr => ∃ l, l ≤ j ∧ i = .int .i64 (l : Int) ∧ Hid (L3 w q R V lsA (over (fst ks j) (others os m) (fun i => ks[(i + r) % j]?) l) (m + l) wr)) (fun i _ => j - (intOf i).toNat)
              case atStart => exact ⟨0, Nat.zero_le _, rfl, HST⟩
              case round =>
                obtain ⟨l, hl, rfl, hst⟩ := hrel
                clear HST
                by_cases hlt4 : l < j
                · obtain ⟨x, hx⟩ : ∃ x, x = (l + r) % j := ⟨_, rfl⟩
                  have hxj : x < j := by rw [hx]; exact Nat.mod_lt _ (by omega)
                  obtain ⟨b, off, key, rfl, hcell, hke, hks⟩ := HA.out wr hst.out.1.1 x hxj
                  have hcm := hst.out.1.2.2.1.cell
                  obtain ⟨v0, hv0⟩ := fst_has hke j hxj
                  obtain ⟨_, _, _, z, hz, _⟩ := fst_is hv0
                  subst hz
                  have hgk := (HV.out.get key _).2 hv0
                  have hlk : (Instr.lookup 50 (.map (some q)) (.string key) false).run Try.prog wr = .ok (.int .i64 (z : Int)) wr := by
                    obtain ⟨c, hM⟩ := hst.out.2.1
                    have h1 := look1 hM key hks
                    rw [hgk] at h1
                    exact h1
                  have HPut := Lib.hid (hst.out.put (by omega) key (z : Int) (over_next HG.out (show ks[(l + r) % j]? = some key by rw [← hx]; exact hke) hv0))
                  have hj0 : ¬ (j : Int) = 0 := by omega
                  have hrem : Int.tmod ((l : Int) + (r : Int)) (j : Int) = (x : Int) := by rw [Int.tmod_eq_emod_of_nonneg (by omega), hx]; exact (Int.natCast_emod _ _).symm
                  have hrem2 : Int.tmod (wrap64 ((l : Int) + (r : Int))) (j : Int) = (x : Int) := by rw [← hrem]; congr 1; unfold wrap64; omega
                  clear hst HA HO hke hv0 hgk hx
                  go_wp2_with fail
                  refine HPut.out.mono ?_
                  rintro e w3 ⟨⟨bb, rfl⟩, hst3⟩
                  have HS4 := Lib.hid hst3
                  clear hst3 HPut hrem hrem2 hj0
                  go_wp2
                  go_roundw
                  case rel => exact ⟨l + 1, by omega, by simp, HS4⟩
                  case measure => simp [intOf]; omega
                · obtain rfl : l = j := by omega
                  have HLE := Lib.hid (And.intro HL0.out HL2.out)
                  have HST : Hid (L3 w q R V lsA (left (fst ks l) os m 0) (m + l) wr) := Lib.hid (hst.out.congr fun x y => left_zero (fun k v h => by
                    obtain ⟨i, h1, h2, _⟩ := fst_is h
                    obtain ⟨i', h3, h4⟩ := turn_hits h1 hr2
                    exact ⟨i', h3, by rw [h4]; exact h2⟩) (fun i k hi h => fst_has h l (Nat.mod_lt _ (by omega))) x y)
                  clear hst hlt4
                  go_wp2_with fail
                  go_loopw [123] (fun i wr => ∃ t, t ≤ m ∧ i = .int .i64 (t : Int) ∧ Hid (L3 w q R V lsA (left (fst ks l) os m t) (m + l) wr)) (fun i _ => m - (intOf i).toNat)
                  case atStart => exact ⟨0, Nat.zero_le _, rfl, HST⟩
                  case round =>
                    obtain ⟨t, ht, rfl, hst⟩ := hrel
                    clear HST
                    by_cases hlt5 : t < m
                    · obtain ⟨b, off, key, rfl, hcell, hke, hks⟩ := HO.out wr hst.out.1.1 t hlt5
                      have hcm := hst.out.1.2.2.1.cell
                      have hlk : (Instr.lookup 50 (.map (some q)) (.string key) true).run Try.prog wr = .ok (.tuple #[(getK V key).getD (.int .i64 0), .bool (getK V key).isSome]) wr := by
                        obtain ⟨c, hM⟩ := hst.out.2.1
                        exact look2 hM key hks
                      cases hgk : getK V key with
                      | none =>
                        rw [hgk] at hlk
                        have HDr := Lib.hid (hst.out.drop key (left_next hke ((HV.out.none key).1 hgk)))
                        dsimp only [Option.getD, Option.isSome] at hlk
                        clear hst HA HO hke hgk
                        go_wp2_with fail
                        refine HDr.out.mono ?_
                        rintro e w3 ⟨⟨bb, rfl⟩, hst3⟩
                        have HS4 := Lib.hid hst3
                        clear hst3 HDr
                        go_wp2
                        go_roundw
                        case rel => exact ⟨t + 1, by omega, by simp, HS4⟩
                        case measure => simp [intOf]; omega
                      | some v0 =>
                        rw [hgk] at hlk
                        have HS4 := Lib.hid (hst.out.congr (left_same hke ((HV.out.get key v0).1 hgk)))
                        dsimp only [Option.getD, Option.isSome] at hlk
                        clear hst HA HO hke hgk
                        go_wp2
                        go_roundw
                        case rel => exact ⟨t + 1, by omega, by simp, HS4⟩
                        case measure => simp [intOf]; omega
                    · obtain rfl : t = m := by omega
                      have HST : Hid (L3 w q R V lsA (fst ks l) (t + l) wr) := Lib.hid (hst.out.congr fun x y => left_end x y)
                      clear hst hlt5
                      obtain ⟨hBs, ⟨c2, hM⟩, hTA, ⟨lsB, hTB, hIB, _⟩, hqR, hRs⟩ := HST.out
                      have hVA := HIA.out.ext HV.out
                      have hVB := hIB.ext HV.out
                      obtain ⟨L, hL⟩ : ∃ L, L = V.length := ⟨_, rfl⟩
                      have htA : total lsA = L := by rw [flat_total, hVA, hL]
                      have htB : total lsB = L := by rw [flat_total, hVB, hL]
                      have hLA := len_any (W := wr.drew) (hTA.keep fun x hx hl => ⟨rfl, hx⟩)
                      have hLB := len_any (W := wr.drew) (hTB.keep fun x hx hl => ⟨rfl, hx⟩)
                      rw [htA] at hLA
                      rw [htB] at hLB
                      have HLA := Lib.hid hLA
                      have HLB := Lib.hid hLB
                      have hlr : ∀ ty, (Builtin.len_ #[50] ty #[.map (some q)]).run Try.prog wr.drew = .ok (.int .i64 (L : Int)) wr.drew := fun ty => by
                        have h1 := World.ownsMap.len (show wr.drew.ownsMap Try.prog 9 RV q c2 (dm (toF V)) from hM.kept rfl) Try.underlying50 ty
                        rw [toF_length_map, ← hL] at h1
                        exact h1
                      have hcm : wr.drew.cell? ⟨q + 1, 0, none⟩ = some (.map (some q)) := hBs.2.2.1.cell
                      have HALL := Lib.hid (And.intro hBs (And.intro (And.intro hTA hTB) (And.intro hM (And.intro hVA hVB))))
                      clear hBs hM hTA hTB hIB hVA hVB htA htB hLA hLB
                      go_wp2_with fail
                      refine wp_calm ?_
                      refine wp_region_held_drew (S := fun w' => w' = wr.drew) (by kernel_rfl) rfl (fun hHeld => ?_)
                      refine wpAnyH_take (i := 0) (oi := _) (v := ?_) rfl (by kernel_rfl) (by kernel_rfl) (by kernel_rfl) (fun _ _ _ h => h) (Or.inl ⟨by rfl, ?_⟩) (by assumption) ?_
                      rotate_left
                      · (intro w' hSw; (try dsimp only at hSw); subst hSw; go_simp; all_goals with_reducible rfl)
                      try simp only [Act.put, List.getElem_toArray, List.getElem_cons_zero, List.getElem_cons_succ, List.setIfInBounds_toArray, List.set_cons_zero, List.set_cons_succ]
                      refine wpAnyH_take (i := 2) (oi := _) (v := ?_) rfl (by kernel_rfl) (by kernel_rfl) (by kernel_rfl) (fun _ _ _ h => h) (Or.inl ⟨by rfl, ?_⟩) (by assumption) ?_
                      rotate_left
                      · (intro w' hSw; (try dsimp only at hSw); subst hSw; go_simp; all_goals with_reducible rfl)
                      try simp only [Act.put, List.getElem_toArray, List.getElem_cons_zero, List.getElem_cons_succ, List.setIfInBounds_toArray, List.set_cons_zero, List.set_cons_succ]
                      refine wpAnyH_ready (rs := [1]) (by kernel_rfl) (by simp) ?_
                      refine AllReadyH.cons rfl (fun K hK => ?_) AllReadyH.nil
                      go_simp
                      refine HLA.out.mono ?_
                      rintro e wz ⟨rfl, rfl⟩
                      refine hK.out _ _ rfl (fun hHeld => ?_)
                      clear hK K
                      try simp only [Act.put, List.getElem_toArray, List.getElem_cons_zero, List.getElem_cons_succ, List.setIfInBounds_toArray, List.set_cons_zero, List.set_cons_succ]
                      refine wpAnyH_take (i := 3) (oi := _) (v := ?_) rfl (by kernel_rfl) (by kernel_rfl) (by kernel_rfl) (fun _ _ _ h => h) (Or.inl ⟨by rfl, ?_⟩) (by assumption) ?_
                      rotate_left
                      · (intro w' hSw; (try dsimp only at hSw); subst hSw; go_simp; all_goals with_reducible rfl)
                      try simp only [Act.put, List.getElem_toArray, List.getElem_cons_zero, List.getElem_cons_succ, List.setIfInBounds_toArray, List.set_cons_zero, List.set_cons_succ]
                      refine wpAnyH_take (i := 4) (oi := _) (v := ?_) rfl (by kernel_rfl) (by kernel_rfl) (by kernel_rfl) (fun _ _ _ h => h) (Or.inl ⟨by rfl, ?_⟩) (by assumption) ?_
                      rotate_left
                      · (intro w' hSw; (try dsimp only at hSw); subst hSw; go_simp; all_goals with_reducible rfl)
                      try simp only [Act.put, List.getElem_toArray, List.getElem_cons_zero, List.getElem_cons_succ, List.setIfInBounds_toArray, List.set_cons_zero, List.set_cons_succ]
                      refine wpAnyH_take (i := 5) (oi := _) (v := ?_) rfl (by kernel_rfl) (by kernel_rfl) (by kernel_rfl) (fun _ _ _ h => h) (Or.inl ⟨by rfl, ?_⟩) (by assumption) ?_
                      rotate_left
                      · (intro w' hSw; (try dsimp only at hSw); subst hSw; go_simp; all_goals with_reducible rfl)
                      try simp only [Act.put, List.getElem_toArray, List.getElem_cons_zero, List.getElem_cons_succ, List.setIfInBounds_toArray, List.set_cons_zero, List.set_cons_succ]
                      refine wpAnyH_take (i := 6) (oi := _) (v := ?_) rfl (by kernel_rfl) (by kernel_rfl) (by kernel_rfl) (fun _ _ _ h => h) (Or.inl ⟨by rfl, ?_⟩) (by assumption) ?_
                      rotate_left
                      · (intro w' hSw; (try dsimp only at hSw); subst hSw; go_simp; all_goals with_reducible rfl)
                      try simp only [Act.put, List.getElem_toArray, List.getElem_cons_zero, List.getElem_cons_succ, List.setIfInBounds_toArray, List.set_cons_zero, List.set_cons_succ]
                      refine wpAnyH_take (i := 8) (oi := _) (v := ?_) rfl (by kernel_rfl) (by kernel_rfl) (by kernel_rfl) (fun _ _ _ h => h) (Or.inl ⟨by rfl, ?_⟩) (by assumption) ?_
                      rotate_left
                      · (intro w' hSw; (try dsimp only at hSw); subst hSw; go_simp; all_goals with_reducible rfl)
                      try simp only [Act.put, List.getElem_toArray, List.getElem_cons_zero, List.getElem_cons_succ, List.setIfInBounds_toArray, List.set_cons_zero, List.set_cons_succ]
                      refine wpAnyH_ready (rs := [7]) (by kernel_rfl) (by simp) ?_
                      refine AllReadyH.cons rfl (fun K hK => ?_) AllReadyH.nil
                      go_simp
                      refine HLB.out.mono ?_
                      rintro e wz ⟨rfl, rfl⟩
                      refine hK.out _ _ rfl (fun hHeld => ?_)
                      clear hK K
                      try simp only [Act.put, List.getElem_toArray, List.getElem_cons_zero, List.getElem_cons_succ, List.setIfInBounds_toArray, List.set_cons_zero, List.set_cons_succ]
                      refine wpAnyH_take (i := 9) (oi := _) (v := ?_) rfl (by kernel_rfl) (by kernel_rfl) (by kernel_rfl) (fun _ _ _ h => h) (Or.inl ⟨by rfl, ?_⟩) (by assumption) ?_
                      rotate_left
                      · (intro w' hSw; (try dsimp only at hSw); subst hSw; go_simp; all_goals with_reducible rfl)
                      try simp only [Act.put, List.getElem_toArray, List.getElem_cons_zero, List.getElem_cons_succ, List.setIfInBounds_toArray, List.set_cons_zero, List.set_cons_succ]
                      refine wpAnyH_take (i := 10) (oi := _) (v := ?_) rfl (by kernel_rfl) (by kernel_rfl) (by kernel_rfl) (fun _ _ _ h => h) (Or.inl ⟨by rfl, ?_⟩) (by assumption) ?_
                      rotate_left
                      · (intro w' hSw; (try dsimp only at hSw); subst hSw; go_simp; all_goals with_reducible rfl)
                      try simp only [Act.put, List.getElem_toArray, List.getElem_cons_zero, List.getElem_cons_succ, List.setIfInBounds_toArray, List.set_cons_zero, List.set_cons_succ]
                      refine wpAnyH_take (i := 11) (oi := _) (v := ?_) rfl (by kernel_rfl) (by kernel_rfl) (by kernel_rfl) (fun _ _ _ h => h) (Or.inl ⟨by rfl, ?_⟩) (by assumption) ?_
                      rotate_left
                      · (intro w' hSw; (try dsimp only at hSw); subst hSw; go_simp; all_goals with_reducible rfl)
                      try simp only [Act.put, List.getElem_toArray, List.getElem_cons_zero, List.getElem_cons_succ, List.setIfInBounds_toArray, List.set_cons_zero, List.set_cons_succ]
                      refine wpAnyH_done (by kernel_rfl) ?_ _
                      clear hlr
                      go_wp2_with fail
                      refine (from_any _ ⟨#[]⟩ _).mono ?_
                      rintro e w6 ⟨rfl, rfl⟩
                      have bX := ((Boxed.new (wr.alloc (.cells #[] 9)) 49 (.slice (some ⟨wr.heap.size, 0, none⟩) 0 0)))
                      rw [World.size_alloc] at bX
                      obtain ⟨W5, hW5⟩ : ∃ W5, W5 = ((wr.alloc (.cells #[] 9)).alloc (.cells #[.slice (some ⟨wr.heap.size, 0, none⟩) 0 0] 49)).drew := ⟨_, rfl⟩
                      have HX5 : Hid (Below wr.heap.size wr W5 ∧ Boxed W5 (wr.heap.size + 1) 49 (.slice (some ⟨wr.heap.size, 0, none⟩) 0 0) ∧ W5.ownsRow wr.heap.size 9 1 (.slice (some ⟨wr.heap.size, 0, none⟩) 0 0) 0 [] ∧ W5.heap.size = wr.heap.size + 2) := Lib.hid (by
                        rw [hW5]
                        refine ⟨(((Below.refl _ wr).alloc (Nat.le_refl _) _).alloc (by simp) _).drew, bX, ?_, by show (World.alloc _ _).heap.size = _; simp⟩
                        have h : (wr.alloc (.cells #[] 9)).ownsRow wr.heap.size 9 1 (.slice (some ⟨wr.heap.size, 0, none⟩) 0 0) 0 [] := World.ownsRow_made wr #[] 0 (Nat.le_refl _) (by decide) (by simp)
                        exact h.alloc _)
                      rw [← hW5]
                      clear hW5 bX
                      obtain ⟨g, hg⟩ : ∃ g, g = wr.heap.size := ⟨_, rfl⟩
                      obtain ⟨d, hd⟩ : ∃ d, d = W5.heap.size := ⟨_, rfl⟩
                      rw [← hg, ← hd] at HX5
                      have bT := (Boxed.new W5 25 (.pointer (some ⟨q + 1 + 1, 0, none⟩))).alloc (.cells #[.string ⟨#[]⟩] 9)
                      have bK := Boxed.new (W5.alloc (.cells #[.pointer (some ⟨q + 1 + 1, 0, none⟩)] 25)) 9 (.string ⟨#[]⟩)
                      rw [World.size_alloc] at bK
                      rw [← hd] at bT bK
                      have HBT := Lib.hid (And.intro bT bK)
                      have HKS : Hid (∀ p ∈ V, IsV p.2 ∧ p.1.size ≤ maxLen) := Lib.hid fun p hp => by
                        obtain ⟨i, h1, h2, z, h3, _⟩ := fst_is ((HV.out.2 p.1 p.2).1 hp)
                        obtain ⟨_, _, key, _, _, h4, h5⟩ := HA.out w (Below.refl _ _) i h1
                        rw [h2] at h4
                        exact ⟨⟨_, h3⟩, by rw [Option.some.inj h4]; exact h5⟩
                      clear bT bK
                      go_wp2_with fail
                      obtain ⟨W6, hW6⟩ : ∃ W6, W6 = ((W5.alloc (.cells #[.pointer (some ⟨q + 1 + 1, 0, none⟩)] 25)).alloc (.cells #[.string ⟨#[]⟩] 9)) := ⟨_, rfl⟩
                      rw [← hW6, ← hg, ← hd]
                      obtain ⟨hB5, hX5, hRow5, hz5⟩ := HX5.out
                      have hz6 : W6.heap.size = g + 4 := by rw [hW6]; simp; omega
                      have hB6 : Below g wr W6 := by rw [hW6]; exact (hB5.alloc (by omega) _).alloc (by simp; omega) _
                      have hX6 : Boxed W6 (g + 1) 49 (.slice (some ⟨g, 0, none⟩) 0 0) := by rw [hW6]; exact (hX5.alloc _).alloc _
                      have hRow6 : W6.ownsRow g 9 1 (.slice (some ⟨g, 0, none⟩) 0 0) 0 [] := by rw [hW6]; exact (hRow5.alloc _).alloc _
                      have bT : Boxed W6 d 25 (.pointer (some ⟨q + 1 + 1, 0, none⟩)) := by rw [hW6]; exact HBT.out.1
                      have bK : Boxed W6 (d + 1) 9 (.string ⟨#[]⟩) := by rw [hW6]; exact HBT.out.2
                      obtain ⟨hBs, ⟨hTA, hTB⟩, hM, hVA, hVB⟩ := HALL.out
                      have hRg : R ≤ g := by rw [hg]; exact hRs
                      have hTA6 : TreeAt (fun x => Ca q x ∧ x < R) W6 (q + 2) lsA := hTA.keep fun x hx hl => ⟨hB6.block x (by omega), hx⟩
                      have hst := from_stops 2 d (d + 1) g _ (q + 2) lsA ⟨#[]⟩ W6 (fun p => IsV p.2 ∧ p ∈ V) (fun x hx => Nat.lt_of_lt_of_le hx.2 hRg) (by omega) hTA6 (fun p hp => (HKS.out p (by rw [← hVA]; exact hp)).1) (fun p hp => ⟨(HKS.out p (by rw [← hVA]; exact hp)).1, by rw [← hVA]; exact hp⟩) bT.cell bK.cell bT.lt bK.lt
                      rw [from_all, hVA] at hst
                      have HC6 : Hid (∀ W, Below g W6 W → Base w q W ∧ MapAt 9 W q c2 (toF V) ∧ TreeAt (Cr q R) W (q + 3) lsB) := Lib.hid fun W hb => by
                        have h := hB6.trans hb
                        have hl0 := hM.lt
                        have hl1 := hTB.lt
                        exact ⟨hBs.kept h.os h.tape h.output (by have := hb.size; omega) fun x _ _ hl => h.block x (by omega), hM.kept (h.block q (by omega)), hTB.keep fun x hx hl => ⟨h.block x (by omega), hx⟩⟩
                      have HL := Lib.hid hL
                      have h50 : lsA.flatten.length ≤ 50000 := hTA.2.2.1
                      have hL' : lsA.flatten.length = V.length := by rw [hVA]
                      have HE := Lib.hid (And.intro hVB (And.intro hRg hqR))
                      clear hW6 HX5 HBT HALL hB5 hX5 hRow5 hBs hTA hTB hM hVA hVB hTA6 hcm hg hRs HST
                      refine (wpIn_wide (n := 3)).1 ?_
                      refine' wpIn_rangeFunc_ownG rfl (by omega) (gf := 23) (lb := #[.pointer (some ⟨d, 0, none⟩), .pointer (some ⟨d + 1, 0, none⟩)]) rfl trivial (enters_of Try.func23 (by kernel_rfl) rfl)
                        hst (fun h k => h.trans k) (KpB.turn (by omega)) (Below.refl _ _) (fun _ => rfl)
                        (fun pre W' => (∃ v, Boxed W' (g + 1) 49 v ∧ W'.ownsRow g 9 1 v pre.length (pre.map fun p => Value.string p.1.1) ∧ True) ∧ Below g W6 W')
                        (fun _ _ _ => False)
                        (OwnFrom.and (Own.from (holdsRow_own g (g + 1) 49 9 1 (fun s : List { p : KV // IsV p.2 ∧ p ∈ V } => s.length) (fun s : List { p : KV // IsV p.2 ∧ p ∈ V } => s.map fun p => Value.string p.1.1) (fun _ _ => True)) _) (ownFrom_below (by omega) (by omega)))
                        (fun _ _ _ _ _ hs _ _ => hs)
                        ⟨⟨_, hX6, hRow6, trivial⟩, Below.refl _ _⟩
                        _ ?assign ?body ?done ?stop
                      case assign =>
                        intro l x W K hK
                        gi_wp2
                        exact hK
                      case body =>
                        rintro l' pre x W' ⟨⟨v, hv, hr, _⟩, hB⟩ hlen
                        obtain ⟨z, hz⟩ : ∃ z, x.1.2 = .int .i64 z := x.2.1
                        obtain ⟨xk, hxk⟩ : ∃ xk, x.1.1 = xk := ⟨_, rfl⟩
                        have hmem : (xk, Value.int .i64 z) ∈ V := by rw [← hz, ← hxk]; exact x.2.2
                        have hgk := (HV.out.get xk _).2 ((HV.out.2 xk _).1 hmem)
                        obtain ⟨hBs, hM, _⟩ := HC6.out W' hB
                        have hcm := hBs.2.2.1.cell
                        have hlk : (Instr.lookup 50 (.map (some q)) (.string xk) false).run Try.prog W' = .ok (.int .i64 z) W' := by
                          have h1 := look1 hM xk (HKS.out _ hmem).2
                          rw [hgk] at h1
                          exact h1
                        have hcx := hv.cell
                        have hpl : pre.length < 100000 := by
                          have hlv : V.length ≤ 50000 := by omega
                          omega
                        simp only [hz, hxk]
                        obtain ⟨i0, hi, hz0, hi1, hi2⟩ := info_parts infoS
                        have HX := Lib.hid (And.intro hz hxk)
                        have HH := Lib.hid (And.intro hv (And.intro hr hB))
                        have hlB : g + 4 ≤ W'.heap.size := by have := hB.size; omega
                        clear hz hxk hmem hgk hBs hM hlen hv hB
                        gi_wp2_with (first
                          | (gi_at_builtin; refine wpListIn_append_own _ rfl _ _ 49 rfl g 9 i0 (.string ⟨#[]⟩) 1 16 Try.underlying49 hi hz0 hi1 hi2 rfl (by decide) _ _ _ rfl (hr.alloc _) ⟨W'.heap.size, 0, none⟩ 1 1 [.string xk] rfl rfl (one_new _ _ _) (by simp [Value.oneCell']) (by unfold maxLen; omega) (by omega) (by simp; omega) ?_; intro v' w3 hown' hg3 hnil3
                             obtain ⟨p1, p2, p3, p4, p5⟩ := Boxed.appended HH.out.1 (by decide) hr (by omega) (by omega) hown' hg3
                             obtain ⟨g', cap', rfl⟩ := ownsRow_succ hown'
                             have hc3 := p1.cell
                             have hf3 := p1.frozen
                             have HP := Lib.hid (And.intro p2 (And.intro p3 (And.intro p4 p5)))
                             clear p1 p2 p3 p4 p5 hown' hg3 hnil3
                             go_frame)
                          | fail)
                        obtain ⟨p2, p3, p4, p5⟩ := HP.out
                        refine ⟨p4.from _, KpB.below p5 (Nat.le_refl _), ⟨_, p2, ?_, trivial⟩, HH.out.2.2.trans p5⟩
                        rw [List.length_append, List.length_singleton, List.map_append, List.map_singleton, HX.out.2]
                        exact p3
                      case done =>
                        rintro D ys W' hD e ⟨⟨v, hv, hr, _⟩, hB⟩ hK
                        obtain ⟨hBs, hM, hTB⟩ := HC6.out W' hB
                        obtain ⟨hVB, hRg, hqR⟩ := HE.out
                        have hVL : L ≤ 50000 := by rw [HL.out]; omega
                        have hylen : ys.length = L := by have h9 := congrArg List.length e; rw [List.length_map] at h9; rw [HL.out]; exact h9
                        have hrow : ys.map (fun p => Value.string p.1.1) = V.map fun p => Value.string p.1 := by have h9 := congrArg (List.map fun p : KV => Value.string p.1) e; rw [List.map_map] at h9; exact h9
                        rw [hrow] at hr
                        have hr' : W'.ownsRow g 9 1 v L (V.map fun p => Value.string p.1) := by rw [← hylen]; exact hr
                        have hL1 : 1 ≤ L := by
                          obtain ⟨_, _, key, _, _, h4, _⟩ := HA.out w (Below.refl _ _) 0 (by omega)
                          obtain ⟨v0, hv0⟩ := fst_has h4 l (by omega)
                          have h5 := (HV.out.2 key v0).2 hv0
                          rw [HL.out]
                          exact List.length_pos_of_mem h5
                        obtain ⟨m1, hm1⟩ : ∃ m1, L = m1 + 1 := ⟨L - 1, by omega⟩
                        rw [hm1] at hr'
                        obtain ⟨gx, cpx, rfl⟩ := ownsRow_succ hr'
                        rw [← hm1] at hr' hv
                        have hgx : gx < W'.heap.size := (hr'.lt gx (by simp [Value.ownBlock])).2
                        have hxc : ∀ i (hi : i < L), W'.cell? ⟨gx, i, none⟩ = some (.string (V[i]'(by rw [← HL.out]; exact hi)).1) := fun i hi => by
                          have h := World.ownsRow.cells hr' (g := gx) rfl i (.string (V[i]'(by rw [← HL.out]; exact hi)).1) (by simp [show i < V.length by rw [← HL.out]; exact hi])
                          have e1 : ((⟨gx, 0, none⟩ : Addr).add i) = ⟨gx, i, none⟩ := by unfold Addr.add; by_cases h0 : i = 0 <;> simp [h0]
                          rw [e1] at h
                          exact h
                        obtain ⟨c, hc⟩ : ∃ c, c = W'.heap.size := ⟨_, rfl⟩
                        have hgc : g + 4 ≤ c := by have := hB.size; omega
                        have HW' := Lib.hid (And.intro hv (And.intro hxc (And.intro hB (And.intro hK hD))))
                        have HT9 := Lib.hid (And.intro hTB hM)
                        have bI := ((Boxed.new W' 3 (.int .i64 0)).alloc (.cells #[.pointer (some ⟨q + 1 + 1 + 1, 0, none⟩)] 25)).alloc (.cells #[.string ⟨#[]⟩] 9)
                        have bT2 := (Boxed.new (W'.alloc (.cells #[.int .i64 0] 3)) 25 (.pointer (some ⟨q + 1 + 1 + 1, 0, none⟩))).alloc (.cells #[.string ⟨#[]⟩] 9)
                        have bK2 := Boxed.new ((W'.alloc (.cells #[.int .i64 0] 3)).alloc (.cells #[.pointer (some ⟨q + 1 + 1 + 1, 0, none⟩)] 25)) 9 (.string ⟨#[]⟩)
                        have hB7 := (((Below.refl _ W').alloc (Nat.le_refl _) (.cells #[.int .i64 0] 3)).alloc (by simp) (.cells #[.pointer (some ⟨q + 1 + 1 + 1, 0, none⟩)] 25)).alloc (by simp; omega) (.cells #[.string ⟨#[]⟩] 9)
                        simp only [World.size_alloc] at bT2 bK2
                        have H7 := Lib.hid (And.intro bI (And.intro bT2 (And.intro bK2 hB7)))
                        clear hv hr hr' hxc hB hK hD hBs hM hTB bI bT2 bK2 hB7 e hrow hylen hX6 hRow6 bT bK hst
                        go_wp2_with fail
                        refine (from_any _ ⟨#[]⟩ _).mono ?_
                        rintro e w7 ⟨rfl, rfl⟩
                        go_wp2_with fail
                        obtain ⟨W7, hW7⟩ : ∃ W7, W7 = (((W'.alloc (.cells #[.int .i64 0] 3)).alloc (.cells #[.pointer (some ⟨q + 1 + 1 + 1, 0, none⟩)] 25)).alloc (.cells #[.string ⟨#[]⟩] 9)) := ⟨_, rfl⟩
                        rw [← hW7, ← hc]
                        have hz7 : W7.heap.size = c + 3 := by rw [hW7, hc]; simp
                        rw [← hW7, ← hc] at H7
                        obtain ⟨bI, bT2, bK2, hB7⟩ := H7.out
                        have hTB7 : TreeAt (fun x => Cr q R x ∧ x < c) W7 (q + 3) lsB := HT9.out.1.keep fun x hx hl => ⟨hB7.block x (by omega), hx, by omega⟩
                        have hst := from_stops 2 (c + 1) (c + 1 + 1) c _ (q + 3) lsB ⟨#[]⟩ W7 (fun p => IsV p.2 ∧ p ∈ V) (fun x hx => hx.2) (by omega) hTB7 (fun p hp => (HKS.out p (by rw [← hVB]; exact hp)).1) (fun p hp => ⟨(HKS.out p (by rw [← hVB]; exact hp)).1, by rw [← hVB]; exact hp⟩) bT2.cell bK2.cell bT2.lt bK2.lt
                        rw [from_all, hVB] at hst
                        have HC7 : Hid (∀ W, Below c W7 W → Base w q W ∧ MapAt 9 W q c2 (toF V) ∧ Boxed W (g + 1) 49 (.slice (some ⟨gx, 0, none⟩) L cpx) ∧ (∀ i (hi : i < L), W.cell? ⟨gx, i, none⟩ = some (.string (V[i]'(by rw [← HL.out]; exact hi)).1)) ∧ W.heap[D]? = some (.deferred (some []))) := Lib.hid fun W hb => by
                          have h := hB7.trans hb
                          obtain ⟨k1, k2, k3, k4, k5⟩ := HW'.out
                          obtain ⟨x1, x2, x3⟩ := HC6.out W (k3.trans (h.mono (by omega)))
                          have hDl : D < W'.heap.size := (Array.getElem?_eq_some_iff.1 k4).1
                          exact ⟨x1, x2, (h.block _ (by have := k1.lt; omega)).trans k1, fun i hi => (h.cell (p := ⟨gx, i, none⟩) (by show gx < c; omega)).trans (k2 i hi), (h.block D (by omega)).trans k4⟩
                        have hz7' : W7.heap.size = c + 3 := hz7
                        have HCc := Lib.hid hc
                        clear hW7 H7 HT9 hTB7 bT2 bK2 hB7 HC6 hc
                        refine (wpIn_wide (n := 3)).1 ?_
                        refine' wpIn_rangeFunc_ownG rfl (by omega) (gf := 23) (lb := #[.pointer (some ⟨c + 1, 0, none⟩), .pointer (some ⟨c + 1 + 1, 0, none⟩)]) rfl trivial (enters_of Try.func23 (by kernel_rfl) rfl)
                          hst (fun h k => h.trans k) (KpB.turn (by omega)) (Below.refl _ _) (fun _ => rfl)
                          (fun pre W' => (pre.map Subtype.val = V.take pre.length ∧ pre.length ≤ L ∧ Boxed W' c 3 (.int .i64 (pre.length : Int))) ∧ Below c W7 W')
                          (fun co pre _ => co = .ret ∧ ∃ ini x, pre = ini ++ [x] ∧ V[ini.length]? ≠ some x.1)
                          (OwnFrom.and (fun pre X Y row hs hg hr => by
                            obtain ⟨h1, h2, h3⟩ := hs
                            exact ⟨h1, h2, h3.kept hg (fun e => by have := (hr c e.symm).1; omega)⟩) (ownFrom_below (by omega) (by omega)))
                          (fun _ _ _ _ _ hs _ _ => hs)
                          ⟨⟨rfl, by simp, bI⟩, Below.refl _ _⟩
                          _ ?assign2 ?body2 ?done2 ?stop2
                        case assign2 =>
                          intro l x W K hK
                          gi_wp2
                          exact hK
                        case body2 =>
                          rintro l' pre x W' ⟨⟨hpre, hle, bn⟩, hB⟩ hlen
                          obtain ⟨z, hz⟩ : ∃ z, x.1.2 = .int .i64 z := x.2.1
                          obtain ⟨xk, hxk⟩ : ∃ xk, x.1.1 = xk := ⟨_, rfl⟩
                          have hmem : (xk, Value.int .i64 z) ∈ V := by rw [← hz, ← hxk]; exact x.2.2
                          have hgk := (HV.out.get xk _).2 ((HV.out.2 xk _).1 hmem)
                          obtain ⟨hBs, hM, hXb, hXc, _⟩ := HC7.out W' hB
                          have hcm := hBs.2.2.1.cell
                          have hcp := hBs.2.1.cell
                          have hfp := hBs.2.1.frozen
                          have hlk : (Instr.lookup 50 (.map (some q)) (.string xk) false).run Try.prog W' = .ok (.int .i64 z) W' := by
                            have h1 := look1 hM xk (HKS.out _ hmem).2
                            rw [hgk] at h1
                            exact h1
                          have hcx := hXb.cell
                          have hci := bn.cell
                          have hfi := bn.frozen
                          simp only [hz, hxk]
                          have HX : Hid (x.1 = (xk, .int .i64 z)) := Lib.hid (by rw [← hz, ← hxk])
                          have HH := Lib.hid (And.intro bn (And.intro hB (And.intro hpre hmem)))
                          obtain ⟨n, hn⟩ : ∃ n, n = pre.length := ⟨_, rfl⟩
                          rw [← hn] at hci hle
                          have HN := Lib.hid hn
                          clear hz hxk hBs hM hlen bn hB hXb hpre hn
                          by_cases hnL : n < L
                          · have hcell := hXc n hnL
                            have hVn : V[n]? = some (V[n]'(by rw [← HL.out]; exact hnL)) := List.getElem?_eq_getElem _
                            obtain ⟨pn, hpn⟩ : ∃ pn, pn = V[n]'(by rw [← HL.out]; exact hnL) := ⟨_, rfl⟩
                            rw [← hpn] at hcell hVn
                            have HVN := Lib.hid hVn
                            obtain ⟨kn, hkn⟩ : ∃ kn, kn = pn.1 := ⟨_, rfl⟩
                            rw [← hkn] at hcell
                            have HKN := Lib.hid hkn
                            clear hXc hVn hpn hkn
                            by_cases hkx : kn = xk
                            · subst hkx
                              have HPN : Hid (pn = x.1) := Lib.hid (by
                                have h1 := List.mem_of_getElem? HVN.out
                                have h2 := (HV.out.get pn.1 pn.2).2 ((HV.out.2 pn.1 pn.2).1 h1)
                                rw [← HKN.out, hgk] at h2
                                rw [HX.out, HKN.out, Option.some.inj h2])
                              clear hgk hmem
                              gi_wp2
                              obtain ⟨h1, h2, h3, _⟩ := HH.out
                              refine ⟨(KeepsOthers.setCell _ _ _).from _, KpB.below ((Below.refl _ _).setCell (p := ⟨c, 0, none⟩) (Nat.le_refl _) _) (Nat.le_refl _), ⟨?_, ?_, ?_⟩, h2.setCell (p := ⟨c, 0, none⟩) (Nat.le_refl _) _⟩
                              · rw [List.map_append, List.length_append, h3, List.length_singleton, ← HN.out, List.take_add_one, HVN.out, List.map_singleton, ← HPN.out]
                                rfl
                              · rw [List.length_append, List.length_singleton, ← HN.out]; omega
                              · rw [List.length_append, List.length_singleton, ← HN.out]; exact h1.set _
                            · have hxy2 : (kn.toList == xk.toList) = false := by
                                refine Bool.eq_false_iff.2 fun e => hkx ?_
                                have e2 := eq_of_beq e
                                rw [Lib.toList_data, Lib.toList_data] at e2
                                exact ByteArray.ext (Array.toList_inj.1 e2)
                              have HNE : Hid (V[pre.length]? ≠ some x.1) := Lib.hid (by
                                rw [← HN.out, HVN.out, HX.out]
                                intro h
                                exact hkx (by rw [HKN.out, Option.some.inj h]))
                              clear hgk hmem
                              gi_wp2
                              exact ⟨(KeepsOthers.setCell _ _ _).from _, rfl, pre, x, rfl, HNE.out⟩
                          · have HNE : Hid (V[pre.length]? ≠ some x.1) := Lib.hid (by
                              rw [← HN.out, List.getElem?_eq_none (by rw [← HL.out]; omega)]
                              simp)
                            clear hgk hmem hXc
                            gi_wp2
                            exact ⟨(KeepsOthers.setCell _ _ _).from _, rfl, pre, x, rfl, HNE.out⟩
                        case done2 =>
                          rintro D2 ys W'' hD2 e ⟨⟨_, _, bn⟩, hB⟩ hK2
                          have hylen : ys.length = L := by have h9 := congrArg List.length e; rw [List.length_map] at h9; rw [HL.out]; exact h9
                          rw [hylen] at bn
                          obtain ⟨hBs, hM, hXb, _, hK1⟩ := HC7.out W'' hB
                          have hcm := hBs.2.2.1.cell
                          have hcp := hBs.2.1.cell
                          have hfp := hBs.2.1.frozen
                          have hcx := hXb.cell
                          have hci := bn.cell
                          have hlr : ∀ ty, (Builtin.len_ #[50] ty #[.map (some q)]).run Try.prog W'' = .ok (.int .i64 (L : Int)) W'' := fun ty => by
                            have h1 := World.ownsMap.len (show W''.ownsMap Try.prog 9 RV q c2 (dm (toF V)) from hM) Try.underlying50 ty
                            rw [toF_length_map, ← HL.out] at h1
                            exact h1
                          have HF := Lib.hid (And.intro hBs (And.intro hK1 (And.intro hK2 (And.intro hD2 HW'.out))))
                          clear hBs hM hXb hK1 hK2 e bn hB hst hD2 hylen
                          go_wp2_with fail
                          obtain ⟨hBs, hK1, hK2, hD2, _, _, hB0, hKa, hDa⟩ := HF.out
                          have hDl := (Array.getElem?_eq_some_iff.1 hKa).1
                          have hcc := HCc.out
                          have hwq := hBs.2.2.2
                          have bx : Boxed (W''.setCell ⟨w.heap.size, 0, none⟩ (.bool true)) w.heap.size 4 (.bool true) := hBs.2.1.set _
                          have hK2' : (W''.setCell ⟨w.heap.size, 0, none⟩ (.bool true)).heap[D2]? = some (.deferred (some [])) := (Below.heap_setCell W'' ⟨w.heap.size, 0, none⟩ (.bool true) D2 (by show D2 ≠ w.heap.size; omega)).trans hK2
                          have hK1' : ((W''.setCell ⟨w.heap.size, 0, none⟩ (.bool true)).putObj D2 (.deferred none)).heap[D]? = some (.deferred (some [])) := (World.putObj_heap_other (by omega)).trans ((Below.heap_setCell W'' ⟨w.heap.size, 0, none⟩ (.bool true) D (by show D ≠ w.heap.size; omega)).trans hK1)
                          refine ⟨by simp, .inl ⟨_, _, rfl, run_takeDeferred hK2', ?_⟩⟩
                          refine ⟨by simp, .inl ⟨_, _, rfl, run_takeDeferred hK1', ?_⟩⟩
                          have hc4 := cell_kept bx.cell (grownBy_putObj' _ D2 (.deferred none)) (fun r e => by cases e; exact ⟨_, hK2', rfl⟩)
                          have hc5 := cell_kept hc4 (grownBy_putObj' _ D (.deferred none)) (fun r e => by cases e; exact ⟨_, hK1', rfl⟩)
                          refine ⟨.bool true, ?_, rfl, ((hBs.1.setCell (p := ⟨w.heap.size, 0, none⟩) (Nat.le_refl _) _).trans (belowK_b (w := w) (Nat.le_refl _) _ D2 _ _ (by omega) hK2' rfl rfl)).trans (belowK_b (w := w) (Nat.le_refl _) _ D _ _ (by omega) hK1' rfl rfl)⟩
                          simp [results, Try.f6, go_sem, hc5]
                        case stop2 =>
                          rintro D2 co pre W'' hD2 hsp ⟨rfl, ini, x, rfl, h1⟩ hK2
                          exfalso
                          refine h1 ?_
                          obtain ⟨r9, hr9⟩ := hsp
                          rw [List.map_append, List.map_singleton, List.append_assoc] at hr9
                          have h9 := congrArg (fun L => L[ini.length]?) hr9
                          try dsimp only at h9
                          rw [List.getElem?_append_right (by simp)] at h9
                          simpa using h9.symm
                      case stop =>
                        rintro D co pre W' hD hsp h hK
                        exact h.elim

end Go.Proofs.Ytdijbgkfdfchoaa.treeOrders
