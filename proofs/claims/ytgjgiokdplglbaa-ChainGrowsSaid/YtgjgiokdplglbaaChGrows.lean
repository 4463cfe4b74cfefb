/-
  The walk of mailbaglaw07.ChainGrows.
-/
import Derived.Test.YtgjgiokdplglbaaChArg
namespace Go.Proofs.Ytgjgiokdplglbaa
open Go.RowKit
theorem and_mask3 (n : Int) : bits .and .i64 n 7 = n % 8 := by
  have hc : (BitVec.ofInt 64 7).toNat = 2 ^ 3 - 1 := by decide
  have key : (BitVec.ofInt 64 n &&& BitVec.ofInt 64 7).toNat = (n % ((2 ^ 64 : Nat) : Int)).toNat % 2 ^ 3 := by
    rw [BitVec.toNat_and, BitVec.toNat_ofInt, hc, Nat.and_two_pow_sub_one_eq_mod]
  show IntKind.i64.wrap ((BitVec.ofInt 64 n &&& BitVec.ofInt 64 7).toNat : Nat) = n % 8
  rw [key, IntKind.wrap_i64]
  omega
theorem and_mask5 (n : Int) : bits .and .i64 n 31 = n % 32 := by
  have hc : (BitVec.ofInt 64 31).toNat = 2 ^ 5 - 1 := by decide
  have key : (BitVec.ofInt 64 n &&& BitVec.ofInt 64 31).toNat = (n % ((2 ^ 64 : Nat) : Int)).toNat % 2 ^ 5 := by
    rw [BitVec.toNat_and, BitVec.toNat_ofInt, hc, Nat.and_two_pow_sub_one_eq_mod]
  show IntKind.i64.wrap ((BitVec.ofInt 64 n &&& BitVec.ofInt 64 31).toNat : Nat) = n % 32
  rw [key, IntKind.wrap_i64]
  omega
/-- 'string' of bytes that lie in a block of their own -/
theorem conv_new (w : World) (l : List UInt8) (n c : Nat) (hn : l.length = n) (a : Array Value) (ha : a.toList = Lib.byteCells l) :
    (convert 43 9 (.slice (some ⟨w.heap.size, 0, none⟩) n c)).run Try.prog (w.alloc (.cells a 5)) = .ok (.string ⟨l.toArray⟩) (w.alloc (.cells a 5)) := by
  subst hn
  refine run_convert_bytes_back (P := Try.prog) (w.alloc (.cells a 5)) 43 9 5 ⟨w.heap.size, 0, none⟩ c l Try.underlying43 Try.underlying5 Try.underlying9 fun j hj => ?_
  have e : ((⟨w.heap.size, 0, none⟩ : Addr).add j) = ⟨w.heap.size, j, none⟩ := by unfold Addr.add; by_cases h0 : j = 0 <;> simp [h0]
  rw [e, cell_of_row (w.alloc (.cells a 5)) w.heap.size j a 5 (0, 0) (heap_alloc_new w _)]
  have hj' : j < (Lib.byteCells l).length := by simpa [Lib.byteCells] using hj
  have := congrArg (·[j]?) ha
  simp only [Array.getElem?_toList] at this
  rw [this, List.getElem?_eq_getElem hj']
  simp [Lib.byteCells]

/-- a chain behind k rounds: q is its last commit, or there is none yet -/
def Grown (vs : List Ver) (k : Nat) (q : Int) : Prop := vs.length = k ∧ rightC vs = true ∧ 0 ≤ q ∧ q ≤ 8 * k ∧ (vs = [] ∧ q = 0 ∨ lastI vs = q) ∧ ∀ v ∈ vs, v.seq ≤ q

theorem rise_of (vs : List Ver) (h : rightC vs = true) : Rise vs := by
  have h := of_decide_eq_true h
  have step : ∀ j (hj : j + 1 < vs.length), (vs[j]).seq ≤ (vs[j + 1]).seq := fun j hj => by
    have h1 := h (j + 1) hj
    rw [lastI_take vs j (by omega), fol_law, Bool.and_eq_true] at h1
    have := of_decide_eq_true h1.1
    omega
  intro i j hij hj
  induction j with
  | zero => obtain rfl : i = 0 := by omega
            exact Int.le_refl _
  | succ j ih =>
    by_cases e : i = j + 1
    · subst e; exact Int.le_refl _
    · exact Int.le_trans (ih (by omega) (by omega)) (step j hj)

theorem grown_fol {vs : List Ver} {k : Nat} {n : Int} (h : Grown vs k n) (hk : k ≤ 40) (d : Nat) (hd : d < 8) (tx : ByteArray) (gn : Bool) (ht : gn = true → tx = ⟨#[]⟩) : Ver.folB ⟨n + (1 + d), tx, gn⟩ (lastI vs) = true := by
  obtain ⟨h1, h2, h3, h4, h5, h6⟩ := h
  have hl : lastI vs < n + (1 + d) := by
    rcases h5 with ⟨rfl, rfl⟩ | h5
    · rw [lastI_nil]; omega
    · rw [h5]; omega
  rw [fol_law]
  simp only
  rw [decide_eq_true hl, decide_eq_true (show 0 ≤ n + (1 + (d : Int)) by omega), decide_eq_true (show n + (1 + (d : Int)) ≤ 1099511627776 by omega)]
  cases gn
  · rfl
  · have e : (⟨#[]⟩ : ByteArray).toList = [] := by rw [Lib.toList_data]
    rw [ht rfl, e]; rfl

theorem right_more (vs : List Ver) (v : Ver) (hr : rightC vs = true) (hf : v.folB (lastI vs) = true) : rightC (vs ++ [v]) = true := chainPuts.right_more vs v hr hf

theorem last_more (vs : List Ver) (v : Ver) : lastI (vs ++ [v]) = v.seq := by unfold lastI; rw [List.getLast?_concat]

theorem grown_more {vs : List Ver} {k : Nat} {n : Int} (h : Grown vs k n) (d : Nat) (hd : d < 8) (v : Ver) (hv : v.seq = n + (1 + d)) (hf : v.folB (lastI vs) = true) : Grown (vs ++ [v]) (k + 1) (n + (1 + d)) := by
  obtain ⟨h1, h2, h3, h4, h5, h6⟩ := h
  refine ⟨by rw [List.length_append, h1]; rfl, right_more vs v h2 hf, by omega, by omega, .inr (by rw [last_more, hv]), fun x hx => ?_⟩
  rcases List.mem_append.1 hx with hx | hx
  · have := h6 x hx; omega
  · obtain rfl : x = v := by simpa using hx
    omega

theorem up_all {vs : List Ver} {k : Nat} {n m : Int} (h : Grown vs k n) (hm : n ≤ m) {r : Nat} (hr : UpTo vs m r) : r = k := by
  obtain ⟨h1, h2, h3, h4, h5, h6⟩ := h
  obtain ⟨g1, g2, g3⟩ := hr
  rcases Nat.lt_or_ge r k with hlt | hge
  · have hlt' : r < vs.length := by omega
    have a1 := g3 r hlt' (Nat.le_refl _)
    have a2 := h6 vs[r] (List.getElem_mem _)
    omega
  · omega

theorem up_more {vs : List Ver} {k : Nat} {n m : Int} (h : Grown vs k n) (v : Ver) (hm : n ≤ m) (hv : m < v.seq) {r : Nat} (hr : UpTo (vs ++ [v]) m r) : r = k := by
  have hk := h.1
  obtain ⟨h1, h2, h3, h4, h5, h6⟩ := h
  obtain ⟨g1, g2, g3⟩ := hr
  have hl : (vs ++ [v]).length = k + 1 := by rw [List.length_append, h1]; rfl
  rcases Nat.lt_or_ge r k with hlt | hge
  · have a1 := g3 r (by omega) (Nat.le_refl _)
    rw [List.getElem_append_left (by omega)] at a1
    have a2 := h6 vs[r] (List.getElem_mem _)
    omega
  · rcases Nat.lt_or_ge k r with hlt | hge2
    · have a1 := g2 k (by omega) hlt
      rw [List.getElem_append_right (by omega)] at a1
      simp [h1] at a1
      omega
    · omega

theorem at_more (vs : List Ver) (v : Ver) (k : Nat) (h : vs.length = k) : atR (vs ++ [v]) k = atR vs k := by
  unfold atR
  rw [List.take_append_of_le_length (by omega)]

theorem at_last (vs : List Ver) (s : Int) (tx : ByteArray) (gn : Bool) (k : Nat) (h : vs.length = k) (ht : gn = true → tx = ⟨#[]⟩) : atR (vs ++ [⟨s, tx, gn⟩]) (k + 1) = (tx, !gn) := by
  subst h
  rw [atR_at _ _ (by simp)]
  simp only [List.getElem_append_right (Nat.le_refl _), Nat.sub_self, List.getElem_cons_zero]
  cases gn
  · rfl
  · rw [ht rfl]; rfl

end Go.Proofs.Ytgjgiokdplglbaa
namespace Go.Proofs.Ytgjgiokdplglbaa.chainGrows
open Go.RowKit

set_option maxHeartbeats 4000000 in
set_option maxRecDepth 100000 in
theorem walk_few {w : World} (a : Option Addr) (len cap : Nat) (zs : List Int) (hrow : IsRow .i64 w a len cap zs) (h40 : len ≤ 40) (gone : Int) :
    Calls Try.prog 10 #[.slice a len cap, .int .i64 gone] w fun e w' => e = .returned (.bool true) ∧ Below w.heap.size w w' := by
  have h40' : ¬ (40 : Int) < (len : Int) := by omega
  have HROW := Lib.hid hrow
  clear hrow
  go_enter Try.func10, Try.ntmps10
  go_wp2_with fail
  refine (ch_head _).mono ?_
  rintro e w1 ⟨rfl, hb1⟩
  go_wp2
  go_loopw [5, 6, 26] (fun c q i wr => ∃ (k : Nat) (ac : Option Addr) (vs : List Ver) (cc : Nat) (n : Int), k ≤ len ∧ i = .int .i64 k ∧ c = .slice ac k cc ∧ k ≤ cc ∧ cc ≤ 9223372036854775807 ∧ q = .int .i64 n ∧ Hid (Grown vs k n) ∧ Hid (ChIs wr ac vs) ∧ Hid (Below w.heap.size w wr)) (fun _ _ i _ => len - (intOf i).toNat)
  case atStart =>
    refine ⟨0, _, [], 0, 0, Nat.zero_le _, rfl, rfl, by omega, by omega, rfl, Lib.hid ⟨rfl, ?_, by omega, by omega, .inl ⟨rfl, rfl⟩, by simp⟩, Lib.hid ⟨by simp, .inl rfl⟩, Lib.hid (hb1.alloc hb1.size _)⟩
    exact decide_eq_true fun i hi => absurd hi (Nat.not_lt_zero _)
  case round =>
    obtain ⟨k, ac, vs, cc, n, hk, rfl, rfl, hkc, hcc, rfl, HG, HCH, HB⟩ := hrel
    clear hb1
    by_cases hlt : k < len
    · obtain ⟨x, rfl, hx⟩ : ∃ x, a = some x ∧ wr.cell? (x.add k) = some (.int .i64 (zs.getD k 0)) := by
        rcases HROW.out with ⟨_, h0, _⟩ | ⟨x, hx, h1, h2, h3, h4, _⟩
        · omega
        · exact ⟨x, hx, (HB.out.cell (World.block_lt_of_cell? w _ (h4 k (by omega)))).trans (h4 k (by omega))⟩
      generalize zs.getD k 0 = z at hx
      obtain ⟨d, hd, hd8⟩ : ∃ d : Nat, bits .and .i64 z 7 = (d : Int) ∧ d < 8 := ⟨(z % 8).toNat, by rw [and_mask3]; omega, by omega⟩
      obtain ⟨f, hf, hf8⟩ : ∃ f : Nat, bits .and .i64 (k : Int) 31 = (f : Int) ∧ f < 32 := ⟨((k : Int) % 32).toNat, by rw [and_mask5]; omega, by omega⟩
      have hn0 := HG.out.2.2.1
      have hn1 := HG.out.2.2.2.1
      have hk26 : (k : Int) % 26 < 26 := by omega
      have hk26' : 0 ≤ (k : Int) % 26 := by omega
      have cv := conv_new wr [UInt8.ofNat (97 + k % 26)] 1 1 rfl #[.int .u8 (97 + (k : Int) % 26)] (by
        have e : (97 + k % 26) % 256 = 97 + k % 26 := by omega
        simp [Lib.byteCells, e])
      generalize UInt8.ofNat (97 + k % 26) = by1 at cv
      have HN := Lib.hid hn0
      go_upto_if 50 with (fail)
      go_cut [4] (fun _ wx => ∃ tx gn, wx.cell? ⟨wr.heap.size + 1, 0, none⟩ = some (.int .i64 (n + (1 + d))) ∧ wx.cell? ⟨wr.heap.size + 1, 1, none⟩ = some (.string tx) ∧ wx.cell? ⟨wr.heap.size + 1, 2, none⟩ = some (.bool gn) ∧ Hid ((gn = true → tx = ⟨#[]⟩) ∧ Below wr.heap.size wr wx ∧ wr.heap.size + 1 < wx.heap.size))
      case first =>
        cases hbit : (bits BinOp.and IntKind.i64 (gone / 2 ^ f) 1 == 1)
        · go_wp2
          go_meet
          exact ⟨⟨#[by1]⟩, false, by simp, by simp, by simp, Lib.hid ⟨by simp, ((Below.refl wr.heap.size wr).alloc (Nat.le_refl _) _).alloc (by simp) _, by simp⟩⟩
        · go_wp2
          go_meet
          exact ⟨⟨#[]⟩, true, by simp, by simp, by simp, Lib.hid ⟨fun _ => rfl, ((Below.refl wr.heap.size wr).alloc (Nat.le_refl _) _).alloc (by simp) _, by simp⟩⟩
      case rest =>
        obtain ⟨tx, gn, t0, t1, t2, HT⟩ := hcut
        clear cv hd hf hf8 hk26 hk26' hx
        have hfol := grown_fol HG.out (by omega) d hd8 tx gn HT.out.1
        have HT9 : Hid (∀ W, Below wc.heap.size wc W → W.cell? ⟨wr.heap.size + 1, 0, none⟩ = some (.int .i64 (n + (1 + d))) ∧ W.cell? ⟨wr.heap.size + 1, 1, none⟩ = some (.string tx) ∧ W.cell? ⟨wr.heap.size + 1, 2, none⟩ = some (.bool gn)) := Lib.hid fun W hB =>
          ⟨(hB.cell (p := ⟨_, 0, none⟩) HT.out.2.2).trans t0, (hB.cell (p := ⟨_, 1, none⟩) HT.out.2.2).trans t1, (hB.cell (p := ⟨_, 2, none⟩) HT.out.2.2).trans t2⟩
        have HGM := Lib.hid (grown_more HG.out d hd8 ⟨n + (1 + d), tx, gn⟩ rfl hfol)
        have HLEN := Lib.hid HG.out.1
        have HP := put_ok ac cc vs (n + (1 + d)) tx gn wc (HCH.out.below HT.out.2.1) (by rw [HLEN.out]; omega) (by rw [HLEN.out]; exact hkc) hfol
        rw [HLEN.out] at HP
        have HPP := Lib.hid HP
        clear HP hfol t0 t1 t2
        obtain ⟨t0, t1, t2⟩ := HT9.out _ (Below.refl _ _)
        go_wp2_with fail
        refine HPP.out.mono ?_
        rintro e w5 ⟨vv, rfl, g5, k5, rfl, hk5, hk5b, hg5, hg5b, hv5, hb5⟩
        clear HPP t0 t1 t2
        have H5 := Lib.hid hb5
        have HL5 := Lib.hid HGM.out.1
        rw [HL5.out] at hk5 ⊢
        have HC5 : Hid (∀ W, Below w5.heap.size w5 W → ChIs W (some ⟨g5, 0, none⟩) (vs ++ [⟨n + (1 + d), tx, gn⟩])) := Lib.hid fun W hB => ⟨by rw [HL5.out]; omega, .inr ⟨g5, 0, rfl, Nat.lt_of_lt_of_le hg5b hB.size, hv5.below hB hg5b⟩⟩
        have HCo : Hid (∀ W, Below w5.heap.size w5 W → ChIs W ac vs) := Lib.hid fun W hB => (HCH.out.below HT.out.2.1).below (hb5.trans (hB.mono hb5.size))
        have HB5 : Hid (∀ W, Below w5.heap.size w5 W → Below w.heap.size w W) := Lib.hid fun W hB => (HB.out.trans (HT.out.2.1.mono HB.out.size)).trans ((hb5.trans (hB.mono hb5.size)).mono (by have h1 := HB.out.size; have h2 := HT.out.2.1.size; omega))
        clear hb5 hv5
        have hlast := last_any (some ⟨g5, 0, none⟩) k5 (vs ++ [⟨n + (1 + d), tx, gn⟩]) w5 (HC5.out _ (Below.refl _ _))
        rw [last_more, HL5.out] at hlast
        have HLA := Lib.hid hlast
        clear hlast
        go_wp2_with fail
        refine HLA.out.mono ?_
        rintro e w6 ⟨rfl, rfl⟩
        clear HLA
        have hrise := rise_of _ HGM.out.2.1
        have ha1 := at_any (some ⟨g5, 0, none⟩) k5 (vs ++ [⟨n + (1 + d), tx, gn⟩]) (n + (1 + d)) w5 (HC5.out _ (Below.refl _ _)) (by rw [HL5.out]; omega) hrise
        rw [HL5.out] at ha1
        have HA1 := Lib.hid ha1
        have HRI := Lib.hid hrise
        clear ha1 hrise
        go_wp2_with fail
        refine HA1.out.mono ?_
        rintro e w7 ⟨⟨r, hr, rfl⟩, hb7⟩
        obtain rfl := up_all HGM.out (Int.le_refl _) hr
        have H7 := Lib.hid hb7
        clear hr hb7 HA1
        rw [at_last vs _ tx gn k HLEN.out HT.out.1]
        have ha2 := at_any (some ⟨g5, 0, none⟩) k5 (vs ++ [⟨n + (1 + d), tx, gn⟩]) (n + (1 + d) - 1) w7 (HC5.out _ H7.out) (by rw [HL5.out]; omega) HRI.out
        rw [HL5.out] at ha2
        have HA2 := Lib.hid ha2
        clear ha2
        go_wp2_with fail
        refine HA2.out.mono ?_
        rintro e w8 ⟨⟨r2, hr2, rfl⟩, hb8⟩
        obtain rfl := up_more HG.out ⟨n + (1 + d), tx, gn⟩ (by omega) (by show n + (1 + (d : Int)) - 1 < n + (1 + (d : Int)); omega) hr2
        have H8 := Lib.hid (H7.out.trans (hb8.mono H7.out.size))
        clear hr2 hb8 HA2
        rw [at_more vs _ r2 HLEN.out]
        have ha3 := at_any ac cc vs (n + (1 + d) - 1) w8 (HCo.out _ H8.out) (by rw [HLEN.out]; omega) (rise_of _ HG.out.2.1)
        rw [HLEN.out] at ha3
        have HA3 := Lib.hid ha3
        clear ha3
        go_wp2_with fail
        refine HA3.out.mono ?_
        rintro e w9 ⟨⟨r3, hr3, rfl⟩, hb9⟩
        obtain rfl := up_all HG.out (by omega) hr3
        have H9 := Lib.hid (H8.out.trans (hb9.mono H8.out.size))
        clear hr3 hb9 HA3
        obtain ⟨yt, yb⟩ := atR vs r3
        obtain ⟨t0, t1, t2⟩ := HT9.out _ (H5.out.trans (H9.out.mono H5.out.size))
        simp only
        cases gn
        · go_wp2
          go_roundw
          case rel => exact ⟨r3 + 1, some ⟨g5, 0, none⟩, _, k5, n + (1 + d), by omega, by go_num, rfl, hk5, hk5b, rfl, HGM, Lib.hid (HC5.out _ H9.out), Lib.hid (HB5.out _ H9.out)⟩
          case measure => simp [intOf]; omega
        · go_wp2
          go_roundw
          case rel => exact ⟨r3 + 1, some ⟨g5, 0, none⟩, _, k5, n + (1 + d), by omega, by go_num, rfl, hk5, hk5b, rfl, HGM, Lib.hid (HC5.out _ H9.out), Lib.hid (HB5.out _ H9.out)⟩
          case measure => simp [intOf]; omega
    · have hge : ¬ (k : Int) < (len : Int) := by omega
      have hl := HG.out.1
      have hr := right_any' ac cc vs wr HCH.out (by rw [hl]; exact hkc) hcc
      rw [HG.out.2.1, hl] at hr
      have HR := Lib.hid hr
      clear hr hl hlt
      go_wp2_with fail
      refine HR.out.mono ?_
      rintro e w3 ⟨rfl, hb3⟩
      have H3 := Lib.hid (HB.out.trans (hb3.mono HB.out.size))
      clear hb3
      go_wp2
      go_ret
      exact ⟨rfl, H3.out⟩

theorem walk_long {w : World} (a : Option Addr) (len cap : Nat) (h : 40 < len) (gone : Int) :
    Calls Try.prog 10 #[.slice a len cap, .int .i64 gone] w fun e w' => e = .returned (.bool true) ∧ Below w.heap.size w w' := by
  have hle : (40 : Int) < (len : Int) := by omega
  go_enter Try.func10, Try.ntmps10
  go_wp2_with fail
  refine (ch_head _).mono ?_
  rintro e w1 ⟨rfl, hb1⟩
  go_wp2
  go_ret
  exact ⟨rfl, hb1⟩

theorem walk {w : World} (a : Option Addr) (len cap : Nat) (zs : List Int) (hrow : IsRow .i64 w a len cap zs) (gone : Int) (_wg : (Lit.int .i64 gone).wf = true) :
    Calls Try.prog 10 #[.slice a len cap, .int .i64 gone] w fun e w' => e = .returned (.bool true) ∧ Below w.heap.size w w' := by
  by_cases h : len ≤ 40
  · exact walk_few a len cap zs hrow h gone
  · exact walk_long a len cap (by omega) gone

end Go.Proofs.Ytgjgiokdplglbaa.chainGrows
