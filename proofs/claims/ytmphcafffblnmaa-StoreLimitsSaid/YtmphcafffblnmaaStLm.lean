/-
  StoreLimits: keys, values, and writes, as long and as many as may be.
-/
import Derived.Test.YtmphcafffblnmaaStLs
import Derived.Test.YtmphcafffblnmaaStHd
import Derived.StillTailTactics
import Derived.Deep.DeepCutAuto
namespace Go.Proofs.Ytmphcafffblnmaa.storeLimits
open Go.RowKit Go.Proofs.Ytmphcafffblnmaa.tC Go.Proofs.Ytmphcafffblnmaa.sT

set_option linter.unusedVariables false
set_option linter.unusedSimpArgs false

theorem and_maskK (k : Nat) (h : k < 63) (n m : Int) (hm : (BitVec.ofInt 64 m).toNat = 2 ^ k - 1) (hk : (2 ^ k : Nat) ≤ 4611686018427387904) (hd : ∃ j, 2 ^ 64 = 2 ^ k * j) : bits .and .i64 n m = (((n % ((2 ^ 64 : Nat) : Int)).toNat % 2 ^ k : Nat) : Int) := by
  have key : (BitVec.ofInt 64 n &&& BitVec.ofInt 64 m).toNat = (n % ((2 ^ 64 : Nat) : Int)).toNat % 2 ^ k := by
    rw [BitVec.toNat_and, BitVec.toNat_ofInt, hm, Nat.and_two_pow_sub_one_eq_mod]
  show IntKind.i64.wrap ((BitVec.ofInt 64 n &&& BitVec.ofInt 64 m).toNat : Nat) = _
  rw [key, IntKind.wrap_i64]
  have : (n % ((2 ^ 64 : Nat) : Int)).toNat % 2 ^ k < 2 ^ k := Nat.mod_lt _ (Nat.pow_pos (by omega))
  omega
/-- a mask: some number below -/
theorem mask_some (k : Nat) (h : k < 63) (n m : Int) (hm : (BitVec.ofInt 64 m).toNat = 2 ^ k - 1) (hk : (2 ^ k : Nat) ≤ 4611686018427387904) (hd : ∃ j, 2 ^ 64 = 2 ^ k * j) : ∃ q : Nat, q < 2 ^ k ∧ bits .and .i64 n m = (q : Int) :=
  ⟨_, Nat.mod_lt _ (Nat.pow_pos (by omega)), and_maskK k h n m hm hk hd⟩

def keyB (i : Nat) : ByteArray := ⟨#[UInt8.ofNat i]⟩
def limL (n : Nat) : List Wr := (List.range n).map fun i => ⟨keyB i, ⟨#[]⟩, false⟩
theorem limL_len (n : Nat) : (limL n).length = n := by simp [limL]
theorem limL_snoc (n : Nat) : limL (n + 1) = limL n ++ [⟨keyB n, ⟨#[]⟩, false⟩] := by simp [limL, List.range_succ]
theorem limL_rise (n : Nat) (h : n ≤ 256) : RiseW (limL n) := by
  unfold limL RiseW
  rw [List.pairwise_map]
  refine List.Pairwise.imp_of_mem (fun {i j} hi hj hij => ?_) (List.pairwise_lt_range (n := n))
  rw [List.mem_range] at hi hj
  show [UInt8.ofNat i] < [UInt8.ofNat j]
  rw [List.cons_lt_cons_iff]
  refine .inl ?_
  rw [UInt8.lt_iff_toNat_lt]
  simp [UInt8.toNat_ofNat']
  omega
theorem limL_right (n : Nat) (h : n ≤ 256) : rightL (limL n) = decide (n ≤ 200) := by
  by_cases h2 : n ≤ 200
  · rw [decide_eq_true h2]
    refine rightL_of (limL_rise n h) (fun x hx => ?_) (by rw [limL_len]; exact h2)
    obtain ⟨i, _, rfl⟩ := List.mem_map.1 hx
    unfold isR
    have e1 : (keyB i).toList.isEmpty = false := by rw [Lib.toList_data]; rfl
    rw [e1]
    rfl
  · rw [decide_eq_false h2]
    unfold rightL
    rw [limL_len, decide_eq_false h2]
    rfl

def zeroB (n : Nat) : ByteArray := ⟨(List.replicate n (0 : UInt8)).toArray⟩
theorem zeroB_size (n : Nat) : (zeroB n).size = n := by show (List.replicate n (0 : UInt8)).toArray.size = n; simp
def oneW (kn vn : Nat) : List Wr := [⟨zeroB kn, zeroB vn, false⟩]
theorem oneW_right (kn vn : Nat) : rightL (oneW kn vn) = (decide (1 ≤ kn) && decide (kn ≤ 400) && decide (vn ≤ 4096)) := by
  have e : rightL (oneW kn vn) = isR ⟨zeroB kn, zeroB vn, false⟩ := by
    unfold rightL rightW oneW
    simp [okR, List.range_succ]
  rw [e]
  unfold isR
  rw [zeroB_size, zeroB_size]
  have h1 : (!(zeroB kn).toList.isEmpty) = decide (1 ≤ kn) := by
    rw [Lib.toList_data]
    unfold zeroB
    cases kn with
    | zero => rfl
    | succ m => simp [List.replicate_succ]
  simp only [Bool.false_and, Bool.not_false, Bool.and_true]
  rw [h1]
theorem three_wrong : rightL [⟨⟨#[97]⟩, ⟨#[120]⟩, true⟩] = false ∧ rightL [⟨⟨#[98]⟩, ⟨#[]⟩, false⟩, ⟨⟨#[97]⟩, ⟨#[]⟩, false⟩] = false ∧ rightL [⟨⟨#[97]⟩, ⟨#[]⟩, false⟩, ⟨⟨#[97]⟩, ⟨#[]⟩, false⟩] = false := ⟨by kernel_rfl, by kernel_rfl, by kernel_rfl⟩

theorem wr_two (W : World) (x y : Wr) : WrsIs (W.alloc (.cells #[.string x.key, .string x.val, .bool x.gone, .string y.key, .string y.val, .bool y.gone] 51)) (some ⟨W.heap.size, 0, none⟩) [x, y] := by
  refine .inr ⟨W.heap.size, 0, rfl, by simp, fun i hi => ?_⟩
  have hb := Box.new W 51 #[.string x.key, .string x.val, .bool x.gone, .string y.key, .string y.val, .bool y.gone]
  have hi2 : i = 0 ∨ i = 1 := by simp at hi; omega
  rcases hi2 with rfl | rfl
  · exact ⟨hb.cell 0, hb.cell 1, hb.cell 2⟩
  · exact ⟨hb.cell 3, hb.cell 4, hb.cell 5⟩

/-- the list, so far -/
def LmI (W : World) (z : Nat) (v : Value) (wr : World) : Prop := RowK 51 3 W.heap.size wr v z ((limL z).flatMap wrcells) ∧ Below W.heap.size W wr

theorem infoB : (Try.prog.info? 5).map (fun i => (i.zero, i.size, i.bytes)) = some (some (.int .u8 0), 1, 1) := by kernel_rfl
theorem make_bytes (n : Nat) (hn : n ≤ 1000000) :
    ∃ arr : Array Value, arr.toList = List.replicate n (.int .u8 0) ∧ ∀ w, (Instr.makeSlice 63 (.int .i64 (n : Int)) (.int .i64 (n : Int))).run Try.prog w = .ok (.slice (some ⟨w.heap.size, 0, none⟩) n n) (w.alloc (.cells arr 5)) := by
  obtain ⟨i, hi, hz, hi1, hi2⟩ := info_parts infoB
  refine ⟨madeCells (Value.int .u8 0).cells n, toList_madeCells_one _ _, fun w => ?_⟩
  have h := run_makeSlice (P := Try.prog) w 63 5 i (.int .u8 0) Try.underlying63 hi hz .i64 .i64 (n : Int) (n : Int) (by omega) (Int.le_refl _) (by rw [hi1]; simp only [Int.toNat_natCast]; omega) (by rw [hi2]; omega) (by omega)
  rw [hi1] at h
  simpa using h
theorem conv_at (W : World) (g : Nat) (l : List UInt8) (n c : Nat) (hn : l.length = n) (a : Array Value) (ha : a.toList = Lib.byteCells l) (hg : W.heap[g]? = some (.cells a 5 (0, 0))) :
    (convert 63 9 (.slice (some ⟨g, 0, none⟩) n c)).run Try.prog W = .ok (.string ⟨l.toArray⟩) W := by
  subst hn
  refine run_convert_bytes_back (P := Try.prog) W 63 9 5 ⟨g, 0, none⟩ c l Try.underlying63 Try.underlying5 Try.underlying9 fun j hj => ?_
  have e : ((⟨g, 0, none⟩ : Addr).add j) = ⟨g, j, none⟩ := by unfold Addr.add; by_cases h0 : j = 0 <;> simp [h0]
  rw [e, cell_of_row W g j a 5 (0, 0) hg]
  have hj' : j < (Lib.byteCells l).length := by simpa [Lib.byteCells] using hj
  have := congrArg (·[j]?) ha
  simp only [Array.getElem?_toList] at this
  rw [this, List.getElem?_eq_getElem hj']
  simp [Lib.byteCells]

theorem lm_step {W wr : World} {z : Nat} {va : Option Addr} {vc : Nat} (h : LmI W z (.slice va z vc) wr) (hz : z < 256) :
    (convert 63 9 (.slice (some ⟨wr.heap.size, 0, none⟩) 1 1)).run Try.prog (wr.alloc (.cells #[.int .u8 (z : Int)] 5)) = .ok (.string (keyB z)) (wr.alloc (.cells #[.int .u8 (z : Int)] 5)) ∧
    ∃ a2 c2 W2, (Builtin.append_ #[22, 22] 22 #[.slice va z vc, .slice (some ⟨wr.heap.size + 1, 0, none⟩) 1 1]).run Try.prog ((wr.alloc (.cells #[.int .u8 (z : Int)] 5)).alloc (.cells #[.string (keyB z), .string ⟨#[]⟩, .bool false] 51)) = .ok (.slice a2 (z + 1) c2) W2 ∧ Hid (LmI W (z + 1) (.slice a2 (z + 1) c2) W2) := by
  obtain ⟨hr, hb⟩ := h
  refine ⟨conv_at _ _ [UInt8.ofNat z] 1 1 rfl #[.int .u8 (z : Int)] (by simp [Lib.byteCells]; omega) (heap_alloc_new wr _), ?_⟩
  have hbA : Below wr.heap.size wr ((wr.alloc (.cells #[.int .u8 (z : Int)] 5)).alloc (.cells #[.string (keyB z), .string ⟨#[]⟩, .bool false] 51)) := ((Below.refl _ wr).alloc (Nat.le_refl _) _).alloc (by simp) _
  have hp := heap_alloc_new (wr.alloc (.cells #[.int .u8 (z : Int)] 5)) (.cells #[.string (keyB z), .string ⟨#[]⟩, .bool false] 51)
  rw [World.size_alloc] at hp
  obtain ⟨a2, c2, W2, hrun, hrow2, hup⟩ := app_wr (B := W.heap.size) _ (.slice va z vc) (limL z) (by rw [limL_len]; exact hr.below hbA) ⟨keyB z, ⟨#[]⟩, false⟩ (wr.heap.size + 1) hp (by rw [limL_len]; omega) (Nat.le_trans hb.size hbA.size) 22
  rw [limL_len] at hrun hrow2 hup
  exact ⟨a2, c2, W2, hrun, Lib.hid ⟨by rw [limL_snoc]; exact hrow2, (hb.trans (hbA.mono hb.size)).grown hup.1 (Nat.le_trans hb.size hbA.size) fun q hq => ((hr.below hbA).lt q hq).1⟩⟩

attribute [-go_sem] Builtin.append_
set_option maxHeartbeats 1000000 in
set_option maxRecDepth 100000 in
theorem walk {W : World} (k0 : Int) (_h0 : (Lit.int .i64 k0).wf = true) (v0 : Int) (_h1 : (Lit.int .i64 v0).wf = true) (m0 : Int) (_h2 : (Lit.int .i64 m0).wf = true) :
    Calls Try.prog 10 #[.int .i64 k0, .int .i64 v0, .int .i64 m0] W fun e W' => e = .returned (.bool true) ∧ Below W.heap.size W W' := by
  obtain ⟨kn, hkn, ek⟩ := mask_some 9 (by omega) k0 511 (by decide) (by decide) ⟨2 ^ 55, by decide⟩
  obtain ⟨vn, hvn, ev⟩ := mask_some 13 (by omega) v0 8191 (by decide) (by decide) ⟨2 ^ 51, by decide⟩
  obtain ⟨mn, hmn, em⟩ := mask_some 8 (by omega) m0 255 (by decide) (by decide) ⟨2 ^ 56, by decide⟩
  simp only [Nat.reducePow] at hkn hvn hmn
  clear _h0 _h1 _h2
  go_enter Try.func10, Try.ntmps10
  go_wp2_with fail
  refine (head_any _).mono ?_
  rintro e w1 ⟨rfl, hb1⟩
  have H0 : Hid (LmI W 0 (.slice (some ⟨w1.heap.size, 0, none⟩) 0 0) (w1.alloc (.cells #[] 51))) := Lib.hid ⟨RowK.mk (Box.new w1 51 #[]) rfl hb1.size (Nat.le_refl _) (by omega) (by simp [limL]) (fun q hq => absurd hq (by simp)) (fun u hu => by simp [limL] at hu), hb1.alloc hb1.size _⟩
  clear hb1
  go_wp2_with fail
  clear ek ev em
  go_loopw [8, 7] (fun iv v wr => ∃ z : Nat, z ≤ mn ∧ iv = .int .i64 (z : Int) ∧ (∃ va vc, v = .slice va z vc) ∧ Hid (LmI W z v wr)) (fun iv _ _ => mn - (intOf iv).toNat)
  case atStart => exact ⟨0, Nat.zero_le _, rfl, ⟨_, _, rfl⟩, H0⟩
  case round =>
    obtain ⟨z, hz, rfl, ⟨va, vc, rfl⟩, hst⟩ := hrel
    clear H0
    by_cases hzl : z < mn
    · have hzI : (z : Int) < (mn : Int) := by omega
      obtain ⟨hconv, a2, c2, W2, hrun, HN⟩ := lm_step hst.out (by omega)
      have hw8 : IntKind.u8.wrap (z : Int) = (z : Int) := by
        show ((z : Int) % 256) = _
        omega
      clear hst
      go_wp2_with fail
      go_roundw
      case rel => exact ⟨z + 1, by omega, by go_num, ⟨_, _, rfl⟩, HN⟩
      case measure => simp [intOf]; omega
    · obtain rfl : z = mn := by omega
      have hzI : ¬ (z : Int) < (z : Int) := by omega
      obtain ⟨ka, hka, hmk⟩ := make_bytes kn (by omega)
      obtain ⟨vb, hvb, hmv⟩ := make_bytes vn (by omega)
      have hmnz : z < 256 := hmn
      have cvK : ∀ (g : Nat) (W : World), W.heap[g]? = some (.cells ka 5 (0, 0)) → (convert 63 9 (.slice (some ⟨g, 0, none⟩) kn kn)).run Try.prog W = .ok (.string (zeroB kn)) W := fun g W h => conv_at W g (List.replicate kn 0) kn kn (by simp) ka (by rw [hka]; simp [Lib.byteCells]) h
      have cvV : ∀ (g : Nat) (W : World), W.heap[g]? = some (.cells vb 5 (0, 0)) → (convert 63 9 (.slice (some ⟨g, 0, none⟩) vn vn)).run Try.prog W = .ok (.string (zeroB vn)) W := fun g W h => conv_at W g (List.replicate vn 0) vn vn (by simp) vb (by rw [hvb]; simp [Lib.byteCells]) h
      have q1 := cvK wr.heap.size ((wr.alloc (.cells ka 5))) (heap_alloc_new wr _)
      have q2 := cvK wr.heap.size ((wr.drew.alloc (.cells ka 5))) (heap_alloc_new wr _)
      have q3 := cvK wr.heap.size (((wr.alloc (.cells ka 5))).drew) (heap_alloc_new wr _)
      have q4 := cvK wr.heap.size (((wr.alloc (.cells ka 5)).alloc (.cells vb 5))) ((Below.heap_alloc (wr.alloc (.cells ka 5)) _ _ (by simp)).trans (heap_alloc_new wr _))
      have q5 := cvK wr.heap.size (((wr.drew.alloc (.cells ka 5)).alloc (.cells vb 5))) ((Below.heap_alloc (wr.alloc (.cells ka 5)) _ _ (by simp)).trans (heap_alloc_new wr _))
      have q6 := cvK wr.heap.size ((((wr.alloc (.cells ka 5)).alloc (.cells vb 5))).drew) ((Below.heap_alloc (wr.alloc (.cells ka 5)) _ _ (by simp)).trans (heap_alloc_new wr _))
      have q7 := cvV (wr.heap.size + 1) (((wr.alloc (.cells ka 5)).alloc (.cells vb 5))) (by have := heap_alloc_new (wr.alloc (.cells ka 5)) (.cells vb 5); rw [World.size_alloc] at this; exact this)
      have q8 := cvV (wr.heap.size + 1) (((wr.drew.alloc (.cells ka 5)).alloc (.cells vb 5))) (by have := heap_alloc_new (wr.alloc (.cells ka 5)) (.cells vb 5); rw [World.size_alloc] at this; exact this)
      have q9 := cvV (wr.heap.size + 1) ((((wr.alloc (.cells ka 5)).alloc (.cells vb 5))).drew) (by have := heap_alloc_new (wr.alloc (.cells ka 5)) (.cells vb 5); rw [World.size_alloc] at this; exact this)
      have q10 := cvV wr.heap.size ((wr.alloc (.cells vb 5))) (heap_alloc_new wr _)
      have q11 := cvV wr.heap.size ((wr.drew.alloc (.cells vb 5))) (heap_alloc_new wr _)
      have q12 := cvV wr.heap.size (((wr.alloc (.cells vb 5))).drew) (heap_alloc_new wr _)
      have q13 := cvV wr.heap.size (((wr.alloc (.cells vb 5)).alloc (.cells ka 5))) ((Below.heap_alloc (wr.alloc (.cells vb 5)) _ _ (by simp)).trans (heap_alloc_new wr _))
      have q14 := cvV wr.heap.size (((wr.drew.alloc (.cells vb 5)).alloc (.cells ka 5))) ((Below.heap_alloc (wr.alloc (.cells vb 5)) _ _ (by simp)).trans (heap_alloc_new wr _))
      have q15 := cvV wr.heap.size ((((wr.alloc (.cells vb 5)).alloc (.cells ka 5))).drew) ((Below.heap_alloc (wr.alloc (.cells vb 5)) _ _ (by simp)).trans (heap_alloc_new wr _))
      have q16 := cvK (wr.heap.size + 1) (((wr.alloc (.cells vb 5)).alloc (.cells ka 5))) (by have := heap_alloc_new (wr.alloc (.cells vb 5)) (.cells ka 5); rw [World.size_alloc] at this; exact this)
      have q17 := cvK (wr.heap.size + 1) (((wr.drew.alloc (.cells vb 5)).alloc (.cells ka 5))) (by have := heap_alloc_new (wr.alloc (.cells vb 5)) (.cells ka 5); rw [World.size_alloc] at this; exact this)
      have q18 := cvK (wr.heap.size + 1) ((((wr.alloc (.cells vb 5)).alloc (.cells ka 5))).drew) (by have := heap_alloc_new (wr.alloc (.cells vb 5)) (.cells ka 5); rw [World.size_alloc] at this; exact this)
      have HLI := Lib.hid hst.out
      have hww : Below W.heap.size W wr := hst.out.2
      have HWW := Lib.hid hww
      have fin1 : ∀ (X Y : Obj), Hid (Below wr.heap.size wr (((wr.alloc X).alloc Y).alloc (.cells #[.string (zeroB kn), .string (zeroB vn), .bool false] 51)).drew ∧ WrsIs (((wr.alloc X).alloc Y).alloc (.cells #[.string (zeroB kn), .string (zeroB vn), .bool false] 51)).drew (some ⟨wr.heap.size + 1 + 1, 0, none⟩) (oneW kn vn)) := fun X Y => Lib.hid ⟨((((Below.refl _ wr).alloc (Nat.le_refl _) _).alloc (by simp) _).alloc (by simp; omega) _).drew, by
        have h := wr_new ((wr.alloc X).alloc Y) ⟨zeroB kn, zeroB vn, false⟩
        simp only [World.size_alloc] at h
        exact h⟩
      have FIN := Lib.hid fin1
      clear hzl hz cvK cvV hka hvb hst hww fin1
      go_upto_region 11 with fail
      go_cut [9] (fun v wx => (∃ g, v = .slice (some ⟨g, 0, none⟩) 1 1 ∧ Hid (Below wr.heap.size wr wx ∧ WrsIs wx (some ⟨g, 0, none⟩) (oneW kn vn))))
      case first =>
        go_region_law (fail)
        all_goals
          go_wp2_with fail
          go_meet
          exact ⟨_, rfl, FIN.out _ _⟩
      case rest =>
        obtain ⟨g, rfl, hX⟩ := hcut
        have HX := Lib.hid hX.out
        obtain ⟨c1, c2, c3⟩ := three_wrong
        have HR : Hid (∀ (W1 : World) (a : Option Addr) (len cap : Nat) (ws : List Wr) (b : Bool), Below W.heap.size W W1 → WrsIs W1 a ws → ws.length = len → len ≤ 300 → rightL ws = b → Calls Try.prog 29 #[.slice a len cap] W1 fun e W2 => e = .returned (.bool b) ∧ Hid (Below W.heap.size W W2 ∧ Below W1.heap.size W1 W2)) := Lib.hid fun W1 a len cap ws b hb hw hl hle e => by
          subst e
          refine (right_any (cap := cap) hw hl (by omega)).mono ?_
          rintro e W2 ⟨rfl, hb2⟩
          exact ⟨rfl, Lib.hid ⟨hb.trans (hb2.mono hb.size), hb2⟩⟩
        have HLW : Hid (∀ W1, Below wr.heap.size wr W1 → WrsIs W1 va (limL z)) := Lib.hid fun W1 hb => by
          obtain ⟨wa, wc, e3, hw⟩ := wrs_of_row (B := fun _ => True) (v := .slice va z vc) (ws := limL z) (W := wr) ⟨by rw [limL_len]; exact HLI.out.1.keep fun q hq => ⟨rfl, Nat.zero_le _⟩, fun _ _ => trivial⟩
          injection e3 with e4
          subst e4
          exact hw.below hb
        have HOR := Lib.hid (oneW_right kn vn)
        have HLR := Lib.hid (limL_right z (by omega))
        have HC3 := Lib.hid (And.intro c1 (And.intro c2 c3))
        have HNW : Hid (∀ W1, Below W.heap.size W W1 → Calls Try.prog 36 #[.int .i64 0, .slice none 0 0] W1 fun e W' => ∃ s, e = .returned (.tuple #[.pointer (some ⟨s, 0, none⟩), .int .i64 0]) ∧ Hid (Sep W1.heap.size (fun _ => False) W' s ((StM.new 0).write 0 []) ∧ Below W1.heap.size W1 W' ∧ Below W.heap.size W W')) := Lib.hid fun W1 hb => by
          refine (sep_new (n0 := W1.heap.size) (cap := 0) 0 (.inl rfl : WrsIs W1 none []) rfl (by simp)).mono ?_
          rintro e W' ⟨hb1, ⟨h1, _⟩ | ⟨_, s, lo, h2, _, h3, h4⟩⟩
          · rw [hF0] at h1; cases h1
          · obtain rfl : lo = 0 := by omega
            exact ⟨s, h3, Lib.hid ⟨h4, hb1, hb.trans (hb1.mono hb.size)⟩⟩
        have HBC : Hid (Below W.heap.size W wc ∧ WrsIs wc (some ⟨g, 0, none⟩) (oneW kn vn) ∧ g < wc.heap.size) := Lib.hid (by
          obtain ⟨k1, k2⟩ := HX.out
          refine ⟨HWW.out.trans (k1.mono HWW.out.size), k2, ?_⟩
          rcases k2 with k2 | ⟨b, off, e, hlt, _⟩
          · simp [oneW] at k2
          · injection e with e
            injection e with e
            omega)
        have HCM : Hid (∀ (b : Bool), rightL (oneW kn vn) = b → ∀ W2 s, Below wc.heap.size wc W2 → Sep wc.heap.size (fun _ => False) W2 s ((StM.new 0).write 0 []) → Calls Try.prog 28 #[.pointer (some ⟨s, 0, none⟩), .agg #[.int .i64 1, .int .i64 0, .slice (some ⟨g, 0, none⟩) 1 1]] W2 fun e W' => e = .returned (.int .i64 (if b then 0 else 1)) ∧ Hid (Below wc.heap.size wc W')) := Lib.hid fun b hb W2 s h1 h2 => by
          have hfit : ((StM.new 0).write 0 []).fits 1 0 (oneW kn vn) = b := by rw [← hb]; unfold StM.fits; exact Bool.true_and _
          refine (sep_commit (cap := 1) h2 (SG.base (n := 0) []) 1 0 (HBC.out.2.1.below h1) rfl (by simp [oneW]) (.inr fun b off e => .inl ?_)).mono ?_
          · injection e with e
            injection e with e
            have := HBC.out.2.2
            omega
          · rintro e W' ⟨hk, ⟨c1, c2, _⟩ | ⟨c1, c2, _⟩⟩
            · rw [hfit] at c1; subst c1
              exact ⟨c2, Lib.hid (h1.trans hk.below)⟩
            · rw [hfit] at c1; subst c1
              exact ⟨c2, Lib.hid (h1.trans hk.below)⟩
        have HXW := Lib.hid HX.out.1
        clear hX HX HLI c1 c2 c3
        by_cases a1 : 1 ≤ kn
        · have i1 : (1 : Int) ≤ (kn : Int) := by omega
          by_cases a2 : kn ≤ 400
          · have i2 : (kn : Int) ≤ 400 := by omega
            by_cases a3 : vn ≤ 4096
            · have i3 : (vn : Int) ≤ 4096 := by omega
              have HG : Hid (rightL (oneW kn vn) = true) := Lib.hid (by rw [HOR.out, decide_eq_true a1, decide_eq_true a2, decide_eq_true a3]; rfl)
              clear a1 a2 a3
              by_cases a4 : z ≤ 200
              · have i4 : (z : Int) ≤ 200 := by omega
                have HM : Hid (rightL (limL z) = true) := Lib.hid (by rw [HLR.out, decide_eq_true a4])
                clear a4 HOR HLR
                go_wp2_with fail
                refine (HNW.out wc HBC.out.1).mono ?_
                rintro e w2 ⟨s, rfl, h2⟩
                have HC := Lib.hid (HCM.out true HG.out w2 s h2.out.2.1 h2.out.1)
                simp only [if_true, Bool.false_eq_true, if_false] at HC
                clear HCM HNW
                go_wp2_with fail
                refine HC.out.mono ?_
                rintro e w3 ⟨rfl, h3⟩
                have H3 : Hid (Below W.heap.size W w3 ∧ WrsIs w3 (some ⟨g, 0, none⟩) (oneW kn vn) ∧ WrsIs w3 va (limL z)) := Lib.hid ⟨HBC.out.1.trans (h3.out.mono HBC.out.1.size), HBC.out.2.1.below h3.out, HLW.out w3 (HXW.out.trans (h3.out.mono HXW.out.size))⟩
                clear h3 h2 HC
                go_wp2_with fail
                refine (HR.out w3 (some ⟨g, 0, none⟩) 1 1 (oneW kn vn) true H3.out.1 H3.out.2.1 rfl (by omega) HG.out).mono ?_
                rintro e w4 ⟨rfl, h4⟩
                have H4 : Hid (Below W.heap.size W w4 ∧ WrsIs w4 va (limL z)) := Lib.hid ⟨h4.out.1, H3.out.2.2.below h4.out.2⟩
                clear h4 H3
                go_wp2_with fail
                refine (HR.out w4 va z vc (limL z) true H4.out.1 H4.out.2 (limL_len z) (by omega) HM.out).mono ?_
                rintro e w5 ⟨rfl, h5⟩
                have H5 := Lib.hid h5.out.1
                clear h5 H4
                go_wp2_with fail
                refine (HR.out _ _ 1 1 _ false (H5.out.alloc H5.out.size _) (wr_new w5 ⟨⟨#[97]⟩, ⟨#[120]⟩, true⟩) rfl (by omega) HC3.out.1).mono ?_
                rintro e w6 ⟨rfl, h6⟩
                have H6 := Lib.hid h6.out.1
                clear h6 H5
                go_wp2_with fail
                refine (HR.out _ _ 2 2 _ false (H6.out.alloc H6.out.size _) (wr_two w6 ⟨⟨#[98]⟩, ⟨#[]⟩, false⟩ ⟨⟨#[97]⟩, ⟨#[]⟩, false⟩) rfl (by omega) HC3.out.2.1).mono ?_
                rintro e w7 ⟨rfl, h7⟩
                have H7 := Lib.hid h7.out.1
                clear h7 H6
                go_wp2_with fail
                refine (HR.out _ _ 2 2 _ false (H7.out.alloc H7.out.size _) (wr_two w7 ⟨⟨#[97]⟩, ⟨#[]⟩, false⟩ ⟨⟨#[97]⟩, ⟨#[]⟩, false⟩) rfl (by omega) HC3.out.2.2).mono ?_
                rintro e w8 ⟨rfl, h8⟩
                have H8 := Lib.hid h8.out.1
                clear h8 H7
                go_wp2
                first | exact ⟨rfl, H8.out⟩ | (go_ret; exact ⟨rfl, H8.out⟩)
              · have i4 : ((z : Int) ≤ 200) = False := eq_false (by omega)
                have HM : Hid (rightL (limL z) = false) := Lib.hid (by rw [HLR.out, decide_eq_false a4])
                clear a4 HOR HLR
                go_wp2_with fail
                refine (HNW.out wc HBC.out.1).mono ?_
                rintro e w2 ⟨s, rfl, h2⟩
                have HC := Lib.hid (HCM.out true HG.out w2 s h2.out.2.1 h2.out.1)
                simp only [if_true, Bool.false_eq_true, if_false] at HC
                clear HCM HNW
                go_wp2_with fail
                refine HC.out.mono ?_
                rintro e w3 ⟨rfl, h3⟩
                have H3 : Hid (Below W.heap.size W w3 ∧ WrsIs w3 (some ⟨g, 0, none⟩) (oneW kn vn) ∧ WrsIs w3 va (limL z)) := Lib.hid ⟨HBC.out.1.trans (h3.out.mono HBC.out.1.size), HBC.out.2.1.below h3.out, HLW.out w3 (HXW.out.trans (h3.out.mono HXW.out.size))⟩
                clear h3 h2 HC
                go_wp2_with fail
                refine (HR.out w3 (some ⟨g, 0, none⟩) 1 1 (oneW kn vn) true H3.out.1 H3.out.2.1 rfl (by omega) HG.out).mono ?_
                rintro e w4 ⟨rfl, h4⟩
                have H4 : Hid (Below W.heap.size W w4 ∧ WrsIs w4 va (limL z)) := Lib.hid ⟨h4.out.1, H3.out.2.2.below h4.out.2⟩
                clear h4 H3
                go_wp2_with fail
                refine (HR.out w4 va z vc (limL z) false H4.out.1 H4.out.2 (limL_len z) (by omega) HM.out).mono ?_
                rintro e w5 ⟨rfl, h5⟩
                have H5 := Lib.hid h5.out.1
                clear h5 H4
                go_wp2_with fail
                refine (HR.out _ _ 1 1 _ false (H5.out.alloc H5.out.size _) (wr_new w5 ⟨⟨#[97]⟩, ⟨#[120]⟩, true⟩) rfl (by omega) HC3.out.1).mono ?_
                rintro e w6 ⟨rfl, h6⟩
                have H6 := Lib.hid h6.out.1
                clear h6 H5
                go_wp2_with fail
                refine (HR.out _ _ 2 2 _ false (H6.out.alloc H6.out.size _) (wr_two w6 ⟨⟨#[98]⟩, ⟨#[]⟩, false⟩ ⟨⟨#[97]⟩, ⟨#[]⟩, false⟩) rfl (by omega) HC3.out.2.1).mono ?_
                rintro e w7 ⟨rfl, h7⟩
                have H7 := Lib.hid h7.out.1
                clear h7 H6
                go_wp2_with fail
                refine (HR.out _ _ 2 2 _ false (H7.out.alloc H7.out.size _) (wr_two w7 ⟨⟨#[97]⟩, ⟨#[]⟩, false⟩ ⟨⟨#[97]⟩, ⟨#[]⟩, false⟩) rfl (by omega) HC3.out.2.2).mono ?_
                rintro e w8 ⟨rfl, h8⟩
                have H8 := Lib.hid h8.out.1
                clear h8 H7
                go_wp2
                first | exact ⟨rfl, H8.out⟩ | (go_ret; exact ⟨rfl, H8.out⟩)
            · have i3 : ((vn : Int) ≤ 4096) = False := eq_false (by omega)
              have HG : Hid (rightL (oneW kn vn) = false) := Lib.hid (by rw [HOR.out, decide_eq_false a3]; simp)
              clear a1 a2 a3
              by_cases a4 : z ≤ 200
              · have i4 : (z : Int) ≤ 200 := by omega
                have HM : Hid (rightL (limL z) = true) := Lib.hid (by rw [HLR.out, decide_eq_true a4])
                clear a4 HOR HLR
                go_wp2_with fail
                refine (HNW.out wc HBC.out.1).mono ?_
                rintro e w2 ⟨s, rfl, h2⟩
                have HC := Lib.hid (HCM.out false HG.out w2 s h2.out.2.1 h2.out.1)
                simp only [if_true, Bool.false_eq_true, if_false] at HC
                clear HCM HNW
                go_wp2_with fail
                refine HC.out.mono ?_
                rintro e w3 ⟨rfl, h3⟩
                have H3 : Hid (Below W.heap.size W w3 ∧ WrsIs w3 (some ⟨g, 0, none⟩) (oneW kn vn) ∧ WrsIs w3 va (limL z)) := Lib.hid ⟨HBC.out.1.trans (h3.out.mono HBC.out.1.size), HBC.out.2.1.below h3.out, HLW.out w3 (HXW.out.trans (h3.out.mono HXW.out.size))⟩
                clear h3 h2 HC
                go_wp2_with fail
                refine (HR.out w3 (some ⟨g, 0, none⟩) 1 1 (oneW kn vn) false H3.out.1 H3.out.2.1 rfl (by omega) HG.out).mono ?_
                rintro e w4 ⟨rfl, h4⟩
                have H4 : Hid (Below W.heap.size W w4 ∧ WrsIs w4 va (limL z)) := Lib.hid ⟨h4.out.1, H3.out.2.2.below h4.out.2⟩
                clear h4 H3
                go_wp2_with fail
                refine (HR.out w4 va z vc (limL z) true H4.out.1 H4.out.2 (limL_len z) (by omega) HM.out).mono ?_
                rintro e w5 ⟨rfl, h5⟩
                have H5 := Lib.hid h5.out.1
                clear h5 H4
                go_wp2_with fail
                refine (HR.out _ _ 1 1 _ false (H5.out.alloc H5.out.size _) (wr_new w5 ⟨⟨#[97]⟩, ⟨#[120]⟩, true⟩) rfl (by omega) HC3.out.1).mono ?_
                rintro e w6 ⟨rfl, h6⟩
                have H6 := Lib.hid h6.out.1
                clear h6 H5
                go_wp2_with fail
                refine (HR.out _ _ 2 2 _ false (H6.out.alloc H6.out.size _) (wr_two w6 ⟨⟨#[98]⟩, ⟨#[]⟩, false⟩ ⟨⟨#[97]⟩, ⟨#[]⟩, false⟩) rfl (by omega) HC3.out.2.1).mono ?_
                rintro e w7 ⟨rfl, h7⟩
                have H7 := Lib.hid h7.out.1
                clear h7 H6
                go_wp2_with fail
                refine (HR.out _ _ 2 2 _ false (H7.out.alloc H7.out.size _) (wr_two w7 ⟨⟨#[97]⟩, ⟨#[]⟩, false⟩ ⟨⟨#[97]⟩, ⟨#[]⟩, false⟩) rfl (by omega) HC3.out.2.2).mono ?_
                rintro e w8 ⟨rfl, h8⟩
                have H8 := Lib.hid h8.out.1
                clear h8 H7
                go_wp2
                first | exact ⟨rfl, H8.out⟩ | (go_ret; exact ⟨rfl, H8.out⟩)
              · have i4 : ((z : Int) ≤ 200) = False := eq_false (by omega)
                have HM : Hid (rightL (limL z) = false) := Lib.hid (by rw [HLR.out, decide_eq_false a4])
                clear a4 HOR HLR
                go_wp2_with fail
                refine (HNW.out wc HBC.out.1).mono ?_
                rintro e w2 ⟨s, rfl, h2⟩
                have HC := Lib.hid (HCM.out false HG.out w2 s h2.out.2.1 h2.out.1)
                simp only [if_true, Bool.false_eq_true, if_false] at HC
                clear HCM HNW
                go_wp2_with fail
                refine HC.out.mono ?_
                rintro e w3 ⟨rfl, h3⟩
                have H3 : Hid (Below W.heap.size W w3 ∧ WrsIs w3 (some ⟨g, 0, none⟩) (oneW kn vn) ∧ WrsIs w3 va (limL z)) := Lib.hid ⟨HBC.out.1.trans (h3.out.mono HBC.out.1.size), HBC.out.2.1.below h3.out, HLW.out w3 (HXW.out.trans (h3.out.mono HXW.out.size))⟩
                clear h3 h2 HC
                go_wp2_with fail
                refine (HR.out w3 (some ⟨g, 0, none⟩) 1 1 (oneW kn vn) false H3.out.1 H3.out.2.1 rfl (by omega) HG.out).mono ?_
                rintro e w4 ⟨rfl, h4⟩
                have H4 : Hid (Below W.heap.size W w4 ∧ WrsIs w4 va (limL z)) := Lib.hid ⟨h4.out.1, H3.out.2.2.below h4.out.2⟩
                clear h4 H3
                go_wp2_with fail
                refine (HR.out w4 va z vc (limL z) false H4.out.1 H4.out.2 (limL_len z) (by omega) HM.out).mono ?_
                rintro e w5 ⟨rfl, h5⟩
                have H5 := Lib.hid h5.out.1
                clear h5 H4
                go_wp2_with fail
                refine (HR.out _ _ 1 1 _ false (H5.out.alloc H5.out.size _) (wr_new w5 ⟨⟨#[97]⟩, ⟨#[120]⟩, true⟩) rfl (by omega) HC3.out.1).mono ?_
                rintro e w6 ⟨rfl, h6⟩
                have H6 := Lib.hid h6.out.1
                clear h6 H5
                go_wp2_with fail
                refine (HR.out _ _ 2 2 _ false (H6.out.alloc H6.out.size _) (wr_two w6 ⟨⟨#[98]⟩, ⟨#[]⟩, false⟩ ⟨⟨#[97]⟩, ⟨#[]⟩, false⟩) rfl (by omega) HC3.out.2.1).mono ?_
                rintro e w7 ⟨rfl, h7⟩
                have H7 := Lib.hid h7.out.1
                clear h7 H6
                go_wp2_with fail
                refine (HR.out _ _ 2 2 _ false (H7.out.alloc H7.out.size _) (wr_two w7 ⟨⟨#[97]⟩, ⟨#[]⟩, false⟩ ⟨⟨#[97]⟩, ⟨#[]⟩, false⟩) rfl (by omega) HC3.out.2.2).mono ?_
                rintro e w8 ⟨rfl, h8⟩
                have H8 := Lib.hid h8.out.1
                clear h8 H7
                go_wp2
                first | exact ⟨rfl, H8.out⟩ | (go_ret; exact ⟨rfl, H8.out⟩)
          · have i2 : ((kn : Int) ≤ 400) = False := eq_false (by omega)
            have HG : Hid (rightL (oneW kn vn) = false) := Lib.hid (by rw [HOR.out, decide_eq_false a2]; simp)
            clear a1 a2
            by_cases a4 : z ≤ 200
            · have i4 : (z : Int) ≤ 200 := by omega
              have HM : Hid (rightL (limL z) = true) := Lib.hid (by rw [HLR.out, decide_eq_true a4])
              clear a4 HOR HLR
              go_wp2_with fail
              refine (HNW.out wc HBC.out.1).mono ?_
              rintro e w2 ⟨s, rfl, h2⟩
              have HC := Lib.hid (HCM.out false HG.out w2 s h2.out.2.1 h2.out.1)
              simp only [if_true, Bool.false_eq_true, if_false] at HC
              clear HCM HNW
              go_wp2_with fail
              refine HC.out.mono ?_
              rintro e w3 ⟨rfl, h3⟩
              have H3 : Hid (Below W.heap.size W w3 ∧ WrsIs w3 (some ⟨g, 0, none⟩) (oneW kn vn) ∧ WrsIs w3 va (limL z)) := Lib.hid ⟨HBC.out.1.trans (h3.out.mono HBC.out.1.size), HBC.out.2.1.below h3.out, HLW.out w3 (HXW.out.trans (h3.out.mono HXW.out.size))⟩
              clear h3 h2 HC
              go_wp2_with fail
              refine (HR.out w3 (some ⟨g, 0, none⟩) 1 1 (oneW kn vn) false H3.out.1 H3.out.2.1 rfl (by omega) HG.out).mono ?_
              rintro e w4 ⟨rfl, h4⟩
              have H4 : Hid (Below W.heap.size W w4 ∧ WrsIs w4 va (limL z)) := Lib.hid ⟨h4.out.1, H3.out.2.2.below h4.out.2⟩
              clear h4 H3
              go_wp2_with fail
              refine (HR.out w4 va z vc (limL z) true H4.out.1 H4.out.2 (limL_len z) (by omega) HM.out).mono ?_
              rintro e w5 ⟨rfl, h5⟩
              have H5 := Lib.hid h5.out.1
              clear h5 H4
              go_wp2_with fail
              refine (HR.out _ _ 1 1 _ false (H5.out.alloc H5.out.size _) (wr_new w5 ⟨⟨#[97]⟩, ⟨#[120]⟩, true⟩) rfl (by omega) HC3.out.1).mono ?_
              rintro e w6 ⟨rfl, h6⟩
              have H6 := Lib.hid h6.out.1
              clear h6 H5
              go_wp2_with fail
              refine (HR.out _ _ 2 2 _ false (H6.out.alloc H6.out.size _) (wr_two w6 ⟨⟨#[98]⟩, ⟨#[]⟩, false⟩ ⟨⟨#[97]⟩, ⟨#[]⟩, false⟩) rfl (by omega) HC3.out.2.1).mono ?_
              rintro e w7 ⟨rfl, h7⟩
              have H7 := Lib.hid h7.out.1
              clear h7 H6
              go_wp2_with fail
              refine (HR.out _ _ 2 2 _ false (H7.out.alloc H7.out.size _) (wr_two w7 ⟨⟨#[97]⟩, ⟨#[]⟩, false⟩ ⟨⟨#[97]⟩, ⟨#[]⟩, false⟩) rfl (by omega) HC3.out.2.2).mono ?_
              rintro e w8 ⟨rfl, h8⟩
              have H8 := Lib.hid h8.out.1
              clear h8 H7
              go_wp2
              first | exact ⟨rfl, H8.out⟩ | (go_ret; exact ⟨rfl, H8.out⟩)
            · have i4 : ((z : Int) ≤ 200) = False := eq_false (by omega)
              have HM : Hid (rightL (limL z) = false) := Lib.hid (by rw [HLR.out, decide_eq_false a4])
              clear a4 HOR HLR
              go_wp2_with fail
              refine (HNW.out wc HBC.out.1).mono ?_
              rintro e w2 ⟨s, rfl, h2⟩
              have HC := Lib.hid (HCM.out false HG.out w2 s h2.out.2.1 h2.out.1)
              simp only [if_true, Bool.false_eq_true, if_false] at HC
              clear HCM HNW
              go_wp2_with fail
              refine HC.out.mono ?_
              rintro e w3 ⟨rfl, h3⟩
              have H3 : Hid (Below W.heap.size W w3 ∧ WrsIs w3 (some ⟨g, 0, none⟩) (oneW kn vn) ∧ WrsIs w3 va (limL z)) := Lib.hid ⟨HBC.out.1.trans (h3.out.mono HBC.out.1.size), HBC.out.2.1.below h3.out, HLW.out w3 (HXW.out.trans (h3.out.mono HXW.out.size))⟩
              clear h3 h2 HC
              go_wp2_with fail
              refine (HR.out w3 (some ⟨g, 0, none⟩) 1 1 (oneW kn vn) false H3.out.1 H3.out.2.1 rfl (by omega) HG.out).mono ?_
              rintro e w4 ⟨rfl, h4⟩
              have H4 : Hid (Below W.heap.size W w4 ∧ WrsIs w4 va (limL z)) := Lib.hid ⟨h4.out.1, H3.out.2.2.below h4.out.2⟩
              clear h4 H3
              go_wp2_with fail
              refine (HR.out w4 va z vc (limL z) false H4.out.1 H4.out.2 (limL_len z) (by omega) HM.out).mono ?_
              rintro e w5 ⟨rfl, h5⟩
              have H5 := Lib.hid h5.out.1
              clear h5 H4
              go_wp2_with fail
              refine (HR.out _ _ 1 1 _ false (H5.out.alloc H5.out.size _) (wr_new w5 ⟨⟨#[97]⟩, ⟨#[120]⟩, true⟩) rfl (by omega) HC3.out.1).mono ?_
              rintro e w6 ⟨rfl, h6⟩
              have H6 := Lib.hid h6.out.1
              clear h6 H5
              go_wp2_with fail
              refine (HR.out _ _ 2 2 _ false (H6.out.alloc H6.out.size _) (wr_two w6 ⟨⟨#[98]⟩, ⟨#[]⟩, false⟩ ⟨⟨#[97]⟩, ⟨#[]⟩, false⟩) rfl (by omega) HC3.out.2.1).mono ?_
              rintro e w7 ⟨rfl, h7⟩
              have H7 := Lib.hid h7.out.1
              clear h7 H6
              go_wp2_with fail
              refine (HR.out _ _ 2 2 _ false (H7.out.alloc H7.out.size _) (wr_two w7 ⟨⟨#[97]⟩, ⟨#[]⟩, false⟩ ⟨⟨#[97]⟩, ⟨#[]⟩, false⟩) rfl (by omega) HC3.out.2.2).mono ?_
              rintro e w8 ⟨rfl, h8⟩
              have H8 := Lib.hid h8.out.1
              clear h8 H7
              go_wp2
              first | exact ⟨rfl, H8.out⟩ | (go_ret; exact ⟨rfl, H8.out⟩)
        · have i1 : ((1 : Int) ≤ (kn : Int)) = False := eq_false (by omega)
          have HG : Hid (rightL (oneW kn vn) = false) := Lib.hid (by rw [HOR.out, decide_eq_false a1]; simp)
          clear a1
          by_cases a4 : z ≤ 200
          · have i4 : (z : Int) ≤ 200 := by omega
            have HM : Hid (rightL (limL z) = true) := Lib.hid (by rw [HLR.out, decide_eq_true a4])
            clear a4 HOR HLR
            go_wp2_with fail
            refine (HNW.out wc HBC.out.1).mono ?_
            rintro e w2 ⟨s, rfl, h2⟩
            have HC := Lib.hid (HCM.out false HG.out w2 s h2.out.2.1 h2.out.1)
            simp only [if_true, Bool.false_eq_true, if_false] at HC
            clear HCM HNW
            go_wp2_with fail
            refine HC.out.mono ?_
            rintro e w3 ⟨rfl, h3⟩
            have H3 : Hid (Below W.heap.size W w3 ∧ WrsIs w3 (some ⟨g, 0, none⟩) (oneW kn vn) ∧ WrsIs w3 va (limL z)) := Lib.hid ⟨HBC.out.1.trans (h3.out.mono HBC.out.1.size), HBC.out.2.1.below h3.out, HLW.out w3 (HXW.out.trans (h3.out.mono HXW.out.size))⟩
            clear h3 h2 HC
            go_wp2_with fail
            refine (HR.out w3 (some ⟨g, 0, none⟩) 1 1 (oneW kn vn) false H3.out.1 H3.out.2.1 rfl (by omega) HG.out).mono ?_
            rintro e w4 ⟨rfl, h4⟩
            have H4 : Hid (Below W.heap.size W w4 ∧ WrsIs w4 va (limL z)) := Lib.hid ⟨h4.out.1, H3.out.2.2.below h4.out.2⟩
            clear h4 H3
            go_wp2_with fail
            refine (HR.out w4 va z vc (limL z) true H4.out.1 H4.out.2 (limL_len z) (by omega) HM.out).mono ?_
            rintro e w5 ⟨rfl, h5⟩
            have H5 := Lib.hid h5.out.1
            clear h5 H4
            go_wp2_with fail
            refine (HR.out _ _ 1 1 _ false (H5.out.alloc H5.out.size _) (wr_new w5 ⟨⟨#[97]⟩, ⟨#[120]⟩, true⟩) rfl (by omega) HC3.out.1).mono ?_
            rintro e w6 ⟨rfl, h6⟩
            have H6 := Lib.hid h6.out.1
            clear h6 H5
            go_wp2_with fail
            refine (HR.out _ _ 2 2 _ false (H6.out.alloc H6.out.size _) (wr_two w6 ⟨⟨#[98]⟩, ⟨#[]⟩, false⟩ ⟨⟨#[97]⟩, ⟨#[]⟩, false⟩) rfl (by omega) HC3.out.2.1).mono ?_
            rintro e w7 ⟨rfl, h7⟩
            have H7 := Lib.hid h7.out.1
            clear h7 H6
            go_wp2_with fail
            refine (HR.out _ _ 2 2 _ false (H7.out.alloc H7.out.size _) (wr_two w7 ⟨⟨#[97]⟩, ⟨#[]⟩, false⟩ ⟨⟨#[97]⟩, ⟨#[]⟩, false⟩) rfl (by omega) HC3.out.2.2).mono ?_
            rintro e w8 ⟨rfl, h8⟩
            have H8 := Lib.hid h8.out.1
            clear h8 H7
            go_wp2
            first | exact ⟨rfl, H8.out⟩ | (go_ret; exact ⟨rfl, H8.out⟩)
          · have i4 : ((z : Int) ≤ 200) = False := eq_false (by omega)
            have HM : Hid (rightL (limL z) = false) := Lib.hid (by rw [HLR.out, decide_eq_false a4])
            clear a4 HOR HLR
            go_wp2_with fail
            refine (HNW.out wc HBC.out.1).mono ?_
            rintro e w2 ⟨s, rfl, h2⟩
            have HC := Lib.hid (HCM.out false HG.out w2 s h2.out.2.1 h2.out.1)
            simp only [if_true, Bool.false_eq_true, if_false] at HC
            clear HCM HNW
            go_wp2_with fail
            refine HC.out.mono ?_
            rintro e w3 ⟨rfl, h3⟩
            have H3 : Hid (Below W.heap.size W w3 ∧ WrsIs w3 (some ⟨g, 0, none⟩) (oneW kn vn) ∧ WrsIs w3 va (limL z)) := Lib.hid ⟨HBC.out.1.trans (h3.out.mono HBC.out.1.size), HBC.out.2.1.below h3.out, HLW.out w3 (HXW.out.trans (h3.out.mono HXW.out.size))⟩
            clear h3 h2 HC
            go_wp2_with fail
            refine (HR.out w3 (some ⟨g, 0, none⟩) 1 1 (oneW kn vn) false H3.out.1 H3.out.2.1 rfl (by omega) HG.out).mono ?_
            rintro e w4 ⟨rfl, h4⟩
            have H4 : Hid (Below W.heap.size W w4 ∧ WrsIs w4 va (limL z)) := Lib.hid ⟨h4.out.1, H3.out.2.2.below h4.out.2⟩
            clear h4 H3
            go_wp2_with fail
            refine (HR.out w4 va z vc (limL z) false H4.out.1 H4.out.2 (limL_len z) (by omega) HM.out).mono ?_
            rintro e w5 ⟨rfl, h5⟩
            have H5 := Lib.hid h5.out.1
            clear h5 H4
            go_wp2_with fail
            refine (HR.out _ _ 1 1 _ false (H5.out.alloc H5.out.size _) (wr_new w5 ⟨⟨#[97]⟩, ⟨#[120]⟩, true⟩) rfl (by omega) HC3.out.1).mono ?_
            rintro e w6 ⟨rfl, h6⟩
            have H6 := Lib.hid h6.out.1
            clear h6 H5
            go_wp2_with fail
            refine (HR.out _ _ 2 2 _ false (H6.out.alloc H6.out.size _) (wr_two w6 ⟨⟨#[98]⟩, ⟨#[]⟩, false⟩ ⟨⟨#[97]⟩, ⟨#[]⟩, false⟩) rfl (by omega) HC3.out.2.1).mono ?_
            rintro e w7 ⟨rfl, h7⟩
            have H7 := Lib.hid h7.out.1
            clear h7 H6
            go_wp2_with fail
            refine (HR.out _ _ 2 2 _ false (H7.out.alloc H7.out.size _) (wr_two w7 ⟨⟨#[97]⟩, ⟨#[]⟩, false⟩ ⟨⟨#[97]⟩, ⟨#[]⟩, false⟩) rfl (by omega) HC3.out.2.2).mono ?_
            rintro e w8 ⟨rfl, h8⟩
            have H8 := Lib.hid h8.out.1
            clear h8 H7
            go_wp2
            first | exact ⟨rfl, H8.out⟩ | (go_ret; exact ⟨rfl, H8.out⟩)

end Go.Proofs.Ytmphcafffblnmaa.storeLimits
