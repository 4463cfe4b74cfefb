/-
  FrameTurns: for every input the law's function returns true, and writes nothing that was there.
-/
import Derived.Test.YtdakodljpgnkdaaDoorFAlls
import Derived.Test.YtdakodljpgnkdaaDoorFTurnM
import Derived.Laws.IdiomStrings
namespace Go.Proofs.YtdakodljpgnkdaaDoor.frameTurns
open Go.RowKit Go.Proofs.YtdakodljpgnkdaaDoor.tRow Go.Proofs.YtdakodljpgnkdaaDoor.frameAlls

theorem and_mask10 (n : Int) : bits .and .i64 n 1023 = n % 1024 := by
  have hc : (BitVec.ofInt 64 1023).toNat = 2 ^ 10 - 1 := by decide
  have key : (BitVec.ofInt 64 n &&& BitVec.ofInt 64 1023).toNat = (n % ((2 ^ 64 : Nat) : Int)).toNat % 2 ^ 10 := by
    rw [BitVec.toNat_and, BitVec.toNat_ofInt, hc, Nat.and_two_pow_sub_one_eq_mod]
  show IntKind.i64.wrap ((BitVec.ofInt 64 n &&& BitVec.ofInt 64 1023).toNat : Nat) = n % 1024
  rw [key, IntKind.wrap_i64]
  omega

/-- the bytes of a block of the call's own, as '[]byte(s)' lays it -/
def BB (w : World) (g : Nat) (L : List UInt8) (N : Nat) : Prop :=
  ∃ cs : Array Value, w.heap[g]? = some (.cells cs 5 (N, N + 1)) ∧ cs.size = N ∧ L.length ≤ N ∧ ∀ i (h : i < L.length), cs[i]? = some (.int .u8 (L[i].toNat : Nat))

theorem BB.lt {w : World} {g N : Nat} {L : List UInt8} (h : BB w g L N) : g < w.heap.size := by
  obtain ⟨cs, h1, _⟩ := h
  exact (Array.getElem?_eq_some_iff.1 h1).1

theorem BB.cell {w : World} {g N : Nat} {L : List UInt8} (h : BB w g L N) (i : Nat) (hi : i < L.length) : w.cell? ⟨g, i, none⟩ = some (.int .u8 (L[i].toNat : Nat)) := by
  obtain ⟨cs, h1, _, _, h4⟩ := h
  rw [cell_of_row w g i cs _ _ h1, h4 i hi]

theorem BB.free {w : World} {g N : Nat} {L : List UInt8} (h : BB w g L N) (i : Nat) (hi : i < L.length) : w.frozen? ⟨g, i, none⟩ = false := by
  obtain ⟨cs, h1, _, h3, _⟩ := h
  unfold World.frozen?
  rw [h1]
  have : ¬ N ≤ i := by omega
  simp [this]

theorem BB.set {w : World} {g N : Nat} {L : List UInt8} (h : BB w g L N) (k : Nat) (x : UInt8) : BB (w.setCell ⟨g, k, none⟩ (.int .u8 (x.toNat : Nat))) g (L.set k x) N := by
  obtain ⟨cs, h1, h2, h3, h4⟩ := h
  refine ⟨cs.setIfInBounds k (.int .u8 (x.toNat : Nat)), ?_, by simpa using h2, by simpa using h3, fun i hi => ?_⟩
  · rw [setCell_eq_setRow w g k cs _ _ _ h1]
    exact setRow_heap w g cs _ _ _ h1
  · rw [List.length_set] at hi
    by_cases hk : k = i
    · subst hk
      rw [Array.getElem?_setIfInBounds_self_of_lt (by omega)]
      simp
    · rw [Array.getElem?_setIfInBounds_ne hk, h4 i hi]
      simp [hk]

theorem BB.drew {w : World} {g N : Nat} {L : List UInt8} (h : BB w g L N) : BB w.drew g L N := h

theorem BB.made (w : World) (s : ByteArray) : BB (w.drew.alloc (.cells (bytesRow s (grownCap w s.size 0 5)) 5 ((bytesRow s (grownCap w s.size 0 5)).size, (bytesRow s (grownCap w s.size 0 5)).size + 1))) w.heap.size s.data.toList (bytesRow s (grownCap w s.size 0 5)).size := by
  refine ⟨bytesRow s (grownCap w s.size 0 5), ?_, rfl, ?_, fun i hi => ?_⟩
  · exact heap_alloc_new w.drew _
  · rw [bytes_len]; unfold bytesRow; rw [Array.size_append, Array.size_map]; exact Nat.le_add_right _ _
  · have hi' : i < s.data.size := by simpa using hi
    rw [bytesRow_at s _ i hi']
    rfl

theorem BB.conv {w : World} {g N : Nat} {L : List UInt8} (h : BB w g L N) (n c : Nat) (hn : n = L.length) :
    (convert 36 9 (.slice (some ⟨g, 0, none⟩) n c)).run Tryd.prog w = .ok (.string ⟨L.toArray⟩) w := by
  subst hn
  refine run_convert_bytes_back (P := Tryd.prog) w 36 9 5 ⟨g, 0, none⟩ c L Tryd.underlying36 Tryd.underlying5 Tryd.underlying9 fun j hj => ?_
  have e : ((⟨g, 0, none⟩ : Addr).add j) = ⟨g, j, none⟩ := by unfold Addr.add; by_cases h0 : j = 0 <;> simp [h0]
  rw [e, h.cell j hj]

theorem walk_out (a : Option Addr) (len cap : Nat) (wh at' : Int) (B : Nat) (lg : Bool) (w : World) (hT : Tab w) (h : len = 0 ∨ 10 < len ∨ B = 0) :
    Calls Tryd.prog 5 #[.slice a len cap, .int .i64 wh, .int .i64 at', .int .u32 B, .bool lg] w fun e w' => e = .returned (.bool true) ∧ Below w.heap.size w w' := by
  by_cases h1 : len = 0
  · subst h1
    go_enter Tryd.func5, Tryd.ntmps5
    go_wp2_with fail
    refine (head_any _ hT).mono ?_
    rintro e w1 ⟨rfl, hb1⟩
    go_wp2
    go_ret
    exact ⟨rfl, hb1⟩
  · have h1' : ((len : Int) == 0) = false := by rw [beq_eq_false_iff_ne]; omega
    by_cases h2 : 10 < len
    · have h2' : (10 : Int) < (len : Int) := by omega
      clear h h1 h2
      go_enter Tryd.func5, Tryd.ntmps5
      go_wp2_with fail
      refine (head_any _ hT).mono ?_
      rintro e w1 ⟨rfl, hb1⟩
      go_wp2
      go_ret
      exact ⟨rfl, hb1⟩
    · have h2' : decide ((10 : Int) < (len : Int)) = false := by rw [decide_eq_false_iff_not]; omega
      have h3 : B = 0 := by omega
      subst h3
      clear h h1 h2
      go_enter Tryd.func5, Tryd.ntmps5
      go_wp2_with fail
      refine (head_any _ hT).mono ?_
      rintro e w1 ⟨rfl, hb1⟩
      go_wp2
      go_ret
      exact ⟨rfl, hb1⟩

theorem at_len (F r : Nat) (hF : F ≤ 5000) : wrap64 (8 * (F : Int) + (r : Int) % (8 * ((F : Int) + 4 - (F : Int)))) = ((8 * F + r % 32 : Nat) : Int) := by
  rw [show (8 : Int) * ((F : Int) + 4 - (F : Int)) = 32 by omega]
  unfold wrap64; omega

theorem at_text (F n r : Nat) (hF : F ≤ 5000) (hn : n ≤ 5000) (h0 : 0 < n) : wrap64 (8 * ((F : Int) + 12) + (r : Int) % (8 * ((F : Int) + 12 + (n : Int) - ((F : Int) + 12)))) = ((8 * (F + 12) + r % (8 * n) : Nat) : Int) := by
  have e : (r : Int) % (8 * ((F : Int) + 12 + (n : Int) - ((F : Int) + 12))) = ((r % (8 * n) : Nat) : Int) := by
    rw [show (8 : Int) * ((F : Int) + 12 + (n : Int) - ((F : Int) + 12)) = ((8 * n : Nat) : Int) by omega]
    rfl
  have h := Nat.mod_lt r (show 0 < 8 * n by omega)
  rw [e]
  generalize r % (8 * n) = z at h
  unfold wrap64; omega

theorem bytes_of (s : ByteArray) (w W : World) (hB : Below w.heap.size w W) : ∃ g w2 cg N, (convert 9 36 (.string s)).run Tryd.prog W = .ok (.slice (some ⟨g, 0, none⟩) s.size cg) w2 ∧ BB w2 g s.data.toList N ∧ w.heap.size ≤ g ∧ Below w.heap.size w w2 :=
  ⟨_, _, _, _, run_bytes_of_string (P := Tryd.prog) W 9 36 5 s Tryd.underlying9 Tryd.underlying36 Tryd.underlying5, BB.made W s, hB.size, (hB.drew).alloc hB.size _⟩

theorem bit_int (B i : Nat) (h : B < 4294967296) : bits .and .u32 ((B : Int) / 2 ^ i) 1 = ((B / 2 ^ i % 2 : Nat) : Int) := by
  have h1 : B / 2 ^ i < 4294967296 := Nat.lt_of_le_of_lt (Nat.div_le_self _ _) h
  have h2 := u32_and_nat (B / 2 ^ i) 1 h1 (by omega)
  rw [nat_mask1] at h2
  have e : (B : Int) / 2 ^ i = ((B / 2 ^ i : Nat) : Int) := by rw [Int.natCast_ediv, Int.natCast_pow]; rfl
  rw [e]
  exact h2

theorem xor_bit (x : UInt8) (j : Nat) (h : j < 8) : bits .xor .u8 (x.toNat : Int) ((2 : Int) ^ j % 256) = ((x ^^^ UInt8.ofNat (2 ^ j)).toNat : Int) := by
  have hlt : 2 ^ j < 256 := Nat.pow_lt_pow_right (by omega) (show j < 8 from h)
  have e : (2 : Int) ^ j % 256 = ((2 ^ j : Nat) : Int) := by
    have : (2 : Int) ^ j = ((2 ^ j : Nat) : Int) := by rw [Int.natCast_pow]; rfl
    have key : ∀ z : Nat, z < 256 → (z : Int) % 256 = (z : Int) := fun z hz => by omega
    rw [this]; exact key _ hlt
  rw [e, u8_xor_nat _ _ x.toNat_lt hlt, UInt8.toNat_xor, UInt8.toNat_ofNat', Nat.mod_eq_of_lt hlt]

theorem set_bit (L : List UInt8) (q : Nat) (D B P i : Nat) (hq : q = P + i) (hk : q / 8 < L.length) (hD : leN L ^^^ D = (B % 2 ^ i) * 2 ^ P) (hb : B / 2 ^ i % 2 = 1) :
    leN (L.set (q / 8) (L[q / 8] ^^^ UInt8.ofNat (2 ^ (q % 8)))) ^^^ D = (B % 2 ^ (i + 1)) * 2 ^ P := by
  have hlt : 2 ^ (q % 8) < 256 := Nat.pow_lt_pow_right (by omega) (show q % 8 < 8 from Nat.mod_lt _ (by omega))
  rw [leN_set L (q / 8) _ hk, UInt8.toNat_ofNat', Nat.mod_eq_of_lt hlt, ← Nat.pow_add, show q % 8 + 8 * (q / 8) = q by omega, Nat.xor_assoc, Nat.xor_comm (2 ^ q), ← Nat.xor_assoc, hD, bit_more, hb, Nat.one_mul, hq]

theorem bit_set (B i : Nat) (hb : B / 2 ^ i % 2 = 1) : B % 2 ^ (i + 1) ≠ 0 := by
  rw [Nat.pow_succ, Nat.mod_mul, hb]
  have := Nat.two_pow_pos i
  omega

/-- where the W-th frame begins, as the law reckons it on its way -/
def fromAt (ps : List ByteArray) (W k : Nat) : Nat := if W < k then (flat (ps.take W)).length else 0

def fine2 (ps : List ByteArray) : Prop := ∀ t ∈ ps, t.size ≤ 200
theorem fine2.fine {ps : List ByteArray} (h : fine2 ps) : fine ps := fun t ht => Nat.le_trans (h t ht) (by omega)

set_option maxHeartbeats 4000000 in
theorem walk_len (a : Option Addr) (cap : Nat) (ps : List ByteArray) (wh at' : Int) (B : Nat) (w : World) (hT : Tab w) (hrow : SRow w a ps) (hl1 : ps.length ≠ 0) (hl2 : ps.length ≤ 10) (hB : B ≠ 0) (hB32 : B < 4294967296) :
    Calls Tryd.prog 5 #[.slice a ps.length cap, .int .i64 wh, .int .i64 at', .int .u32 B, .bool true] w fun e w' => e = .returned (.bool true) ∧ Below w.heap.size w w' := by
  have h1' : ((ps.length : Int) == 0) = false := by rw [beq_eq_false_iff_ne]; omega
  have h2' : decide ((10 : Int) < (ps.length : Int)) = false := by rw [decide_eq_false_iff_not]; omega
  have h3' : ((B : Int) == 0) = false := by rw [beq_eq_false_iff_ne]; omega
  have h0 := hT.lt
  have hmask := and_mask10 wh
  obtain ⟨q, hq⟩ : ∃ q : Nat, wh % 1024 = (q : Int) := ⟨(wh % 1024).toNat, by omega⟩
  rw [hq] at hmask
  obtain ⟨W, hW⟩ : ∃ W : Nat, W = q % ps.length := ⟨_, rfl⟩
  have hW1 : (q : Int) % (ps.length : Int) = (W : Int) := by rw [hW]; simp
  have hW2 : W < ps.length := by rw [hW]; exact Nat.mod_lt q (by omega)
  have hW3 : Hid (W < ps.length) := Lib.hid hW2
  have hne0 : (ps.length : Int) ≠ 0 := by omega
  have HTB : Hid (∀ w', Below w.heap.size w w' → Tab w') := Lib.hid (fun w' h => hT.below h h0)
  have HROW : Hid (∀ w', Below w.heap.size w w' → SRow w' a ps) := Lib.hid (fun w' h => hrow.below h)
  have HB := Lib.hid hB
  have HB32 := Lib.hid hB32
  have HL1 := Lib.hid hl1
  have HL2 := Lib.hid hl2
  clear hq hW hB hB32 hl1 hl2 hrow hW2
  go_enter Tryd.func5, Tryd.ntmps5
  go_wp2_with fail
  refine (head_any _ hT).mono ?_
  rintro e w1 ⟨rfl, hb1⟩
  go_wp2
  rw [hW1]
  clear h1' h2' h3' hW1 hne0 hmask
  go_loopw [11, 12, 44] (fun all f c wr => ∃ k : Nat, k ≤ ps.length ∧ c = .int .i64 k ∧ all = .string ⟨(flat (ps.take k)).toArray⟩ ∧ f = .int .i64 (fromAt ps W k : Nat) ∧ fine2 (ps.take k) ∧ Below w.heap.size w wr) (fun _ _ c _ => ps.length - (intOf c).toNat)
  case atStart => exact ⟨0, Nat.zero_le _, rfl, rfl, rfl, (fun _ h => by cases h), hb1⟩
  case round =>
    obtain ⟨k, hk, rfl, rfl, rfl, hfine, hb⟩ := hrel
    have hz := hb.size
    by_cases hlt : k < ps.length
    · rcases HROW.out wr hb with h | ⟨bb, off, rfl, _, hc⟩
      · rw [h] at hlt; cases hlt
      have hck := hc k hlt
      have hTr := HTB.out wr hb
      obtain ⟨t, ht⟩ : ∃ t, t = ps[k] := ⟨_, rfl⟩
      have htk := take_snocS ps k hlt
      rw [← ht] at hck htk
      clear hc ht
      have hkb : (k : Int) ≤ 1000 := by have := HL2.out; omega
      by_cases hbig : 200 < t.size
      · have hbig' : (200 : Int) < (t.size : Int) := by omega
        go_wp2
        go_ret
        exact ⟨rfl, hb⟩
      · have hbig' : ¬ (200 : Int) < (t.size : Int) := by omega
        have hone := one_any t (by omega)
        have hF2 : (⟨(flat (ps.take k)).toArray⟩ : ByteArray) ++ ⟨(frm t.data.toList).toArray⟩ = ⟨(flat (ps.take (k + 1))).toArray⟩ := by
          rw [htk, flat_snoc]
          apply ByteArray.ext
          simp [ByteArray.data_append]
        have hfine2 : fine2 (ps.take (k + 1)) := by
          rw [htk]
          intro x hx
          rcases List.mem_append.1 hx with h | h
          · exact hfine x h
          · simp at h; subst h; omega
        have hsz := flat_size _ hfine.fine
        have hl2 : (ps.take k).length = k := by rw [List.length_take]; omega
        rw [hl2] at hsz
        have hklen := HL2.out
        have hX : (⟨(flat (ps.take k)).toArray⟩ : ByteArray).size ≤ 10000 := by rw [size_arr]; omega
        have hFs : (⟨(frm t.data.toList).toArray⟩ : ByteArray).size ≤ 1000 := by rw [size_arr, frm_length, bytes_len]; omega
        have hfr : Hid ((if k = W then (⟨(flat (ps.take k)).toArray⟩ : ByteArray).size else fromAt ps W k) = fromAt ps W (k + 1)) := Lib.hid (by
          unfold fromAt
          rw [size_arr]
          by_cases h1 : k = W
          · subst h1; simp
          · by_cases h2 : W < k
            · rw [if_neg h1, if_pos h2, if_pos (by omega)]
            · rw [if_neg h1, if_neg h2, if_neg (by omega)])
        generalize (⟨(flat (ps.take k)).toArray⟩ : ByteArray) = X at hF2 hX hfr
        generalize (⟨(frm t.data.toList).toArray⟩ : ByteArray) = F at hF2 hFs hone
        have HF2 := Lib.hid hF2
        have HFN := Lib.hid hfine2
        have HONE := Lib.hid hone
        clear hF2 htk hfine2 hsz hl2 hone hfine hklen hbig
        by_cases hkW : k = W
        · subst hkW
          rw [if_pos rfl] at hfr
          go_wp2_with fail
          refine (HONE.out _ hTr).mono ?_
          rintro e w3 ⟨rfl, hb3'⟩
          have hb3 := hb.trans (hb3'.mono hz)
          go_wp2
          go_roundw
          case rel => exact ⟨k + 1, by omega, by go_num, by rw [HF2.out], by rw [← hfr.out], HFN.out, hb3⟩
          case measure => simp [intOf]; omega
        · have hkW' : ((k : Int) == (W : Int)) = false := by rw [beq_eq_false_iff_ne]; omega
          rw [if_neg hkW] at hfr
          go_wp2_with fail
          refine (HONE.out _ hTr).mono ?_
          rintro e w3 ⟨rfl, hb3'⟩
          have hb3 := hb.trans (hb3'.mono hz)
          go_wp2
          go_roundw
          case rel => exact ⟨k + 1, by omega, by go_num, by rw [HF2.out], by rw [hfr.out], HFN.out, hb3⟩
          case measure => simp [intOf]; omega
    · have ek : k = ps.length := by omega
      subst ek
      rw [List.take_of_length_le (Nat.le_refl _)] at hfine ⊢
      have hsz := flat_size ps hfine.fine
      have hW2 := hW3.out
      have hF0 : fromAt ps W ps.length = (flat (ps.take W)).length := if_pos hW2
      rw [hF0]
      have hFN : (flat (ps.take W)).length + 12 + (ps[W]'hW3.out).size ≤ (flat ps).length := by
        have e := congrArg List.length (flat_at ps W hW2)
        rw [List.length_append, List.length_append, frm_length, bytes_len] at e
        omega
      have hAl : (⟨(flat ps).toArray⟩ : ByteArray).size = (flat ps).length := size_arr _
      have hAd : (⟨(flat ps).toArray⟩ : ByteArray).data.toList = flat ps := rfl
      obtain ⟨A, hA⟩ : ∃ A : ByteArray, A = ⟨(flat ps).toArray⟩ := ⟨_, rfl⟩
      rw [← hA] at hAl hAd ⊢
      have hN : (flat ps).length ≤ 5000 := by have := HL2.out; omega
      have hrowW := HROW.out wr hb
      rcases hrowW with h | ⟨bb, off, rfl, _, hc⟩
      · rw [h] at hW2; cases hW2
      have hcW : wr.cell? ⟨bb, off + W, none⟩ = some (.string (ps[W]'hW3.out)) := hc W hW2
      have HFN := Lib.hid hFN
      have htl : (ps[W]'hW3.out).size ≤ 5000 := by omega
      have hF5 : (flat (ps.take W)).length ≤ 5000 := by omega
      have ht0 : ∃ t, t = ps[W]'hW3.out := ⟨_, rfl⟩
      obtain ⟨t, ht⟩ := ht0
      rw [← ht] at hcW hFN htl
      have HT := Lib.hid ht
      have HF : ∃ F, F = (flat (ps.take W)).length := ⟨_, rfl⟩
      obtain ⟨F, hF⟩ := HF
      rw [← hF] at hFN hF5 ⊢
      have HFF := Lib.hid hF
      have HAL := Lib.hid hAl
      have HAD := Lib.hid hAd
      have HN := Lib.hid hN
      have HSZ := Lib.hid hsz
      have hmask2 := and_mask16 at'
      obtain ⟨r, hr⟩ : ∃ r : Nat, at' % 65536 = (r : Int) := ⟨(at' % 65536).toNat, by omega⟩
      rw [hr] at hmask2
      obtain ⟨g, w2, cg, N, hcv, hbb, hgw, hb2⟩ := bytes_of A w wr hb
      rw [hAd] at hbb
      have hF6 : (F : Int) ≤ 5000 := by omega
      have ht6 : (t.size : Int) ≤ 5000 := by omega
      have hbW : (W : Int) < (ps.length : Int) := by omega
      clear ht hF hAl hAd hA hN hsz hFN htl hF5 hc hr hF0 hW2 hk hlt
      obtain ⟨P, hPd⟩ : ∃ P, P = 8 * F + r % 32 := ⟨_, rfl⟩
      have hP1 : 8 * F ≤ P := by omega
      have hP2 : P < 8 * (F + 4) := by omega
      obtain ⟨H, hH⟩ : ∃ H, H = F + 4 := ⟨_, rfl⟩
      have HH := Lib.hid hH
      have HP1 := Lib.hid hP1
      have HPH : Hid (P ≤ 8 * H) := Lib.hid (by omega)
      have HHN : Hid (H ≤ (flat ps).length) := Lib.hid (by have := HFN.out; have := HFF.out; omega)
      have HHB : Hid (H ≤ 6000) := Lib.hid (by omega)
      have hHi : Hid ((F : Int) + 4 = (H : Int)) := Lib.hid (by omega)
      have HPP := Lib.hid (at_len F r (by omega))
      rw [← hPd] at HPP
      clear hPd hP1 hP2 hH
      go_wp2
      rw [HPP.out]
      clear hmask2 hcv hbW hF6 ht6 hcW hb
      rw [hHi.out]
      go_loopw [18, 19] (fun tu c wx => ∃ (i : Nat) (L : List UInt8), i ≤ 32 ∧ P + i ≤ 8 * H ∧ c = .int .i64 i ∧ tu = .bool (!decide (B % 2 ^ i = 0)) ∧ BB wx g L N ∧ L.length = (flat ps).length ∧ leN L ^^^ leN (flat ps) = (B % 2 ^ i) * 2 ^ P ∧ Below w.heap.size w wx) (fun _ c _ => 32 - (intOf c).toNat)
      case atStart => exact ⟨0, flat ps, by omega, HPH.out, rfl, by rw [Nat.pow_zero, Nat.mod_one]; rfl, hbb, rfl, by rw [Nat.pow_zero, Nat.mod_one, Nat.xor_self, Nat.zero_mul], hb2⟩
      case round =>
        obtain ⟨i, L, hi, hPi, rfl, rfl, hbx, hL, hD, hbw⟩ := hrel
        have hH6 := HHB.out
        have cP : (P : Int) ≤ 50000 := by omega
        have cH : (H : Int) ≤ 6000 := by omega
        by_cases hgo : i < 32 ∧ P + i < 8 * H
        · have c1 : (i : Int) < 32 := by omega
          have c2 : (P : Int) + (i : Int) < 8 * (H : Int) := by omega
          have HI := Lib.hid hgo
          clear hi hPi hgo hH6
          have hbit := bit_int B i HB32.out
          obtain ⟨k, hk⟩ : ∃ k, k = (P + i) / 8 := ⟨_, rfl⟩
          have hkL : k < L.length := by
            have h1 := HI.out.2
            have h2 := HHN.out
            omega
          obtain ⟨x, hx⟩ : ∃ x, x = L[k]'hkL := ⟨_, rfl⟩
          have hck : wr.cell? ⟨g, (P + i) / 8, none⟩ = some (.int .u8 (x.toNat : Nat)) := by rw [hx, ← hk]; exact hbx.cell k hkL
          have hfk : wr.frozen? ⟨g, (P + i) / 8, none⟩ = false := by rw [← hk]; exact hbx.free k hkL
          have hLb := x.toNat_lt
          rcases Nat.mod_two_eq_zero_or_one (B / 2 ^ i) with h0 | h0
          · rw [h0] at hbit
            clear hck hfk hLb
            have hmore : Hid (B % 2 ^ (i + 1) = B % 2 ^ i) := Lib.hid (by rw [Nat.pow_succ, Nat.mod_mul, h0]; simp)
            have hDD := Lib.hid hD
            have HBX := Lib.hid hbx
            have HLL := Lib.hid hL
            clear hD hbx hL hx hkL hk h0
            go_wp2
            go_roundw
            case rel => exact ⟨i + 1, L, by have := HI.out; omega, by have := HI.out; omega, by go_num, by rw [hmore.out], HBX.out, HLL.out, by rw [hmore.out]; exact hDD.out, hbw⟩
            case measure => have := HI.out.1; simp [intOf]; omega
          rw [h0] at hbit
          have hxor := xor_bit x ((P + i) % 8) (Nat.mod_lt _ (by omega))
          have hkA : ((P : Int) + (i : Int)) / 8 < (A.size : Int) := by have := HAL.out; omega
          have hset := hbx.set k (x ^^^ UInt8.ofNat (2 ^ ((P + i) % 8)))
          have hnew := set_bit L (P + i) (leN (flat ps)) B P i rfl (by rw [← hk]; exact hkL) hD h0
          have hxk : L[(P + i) / 8]'(by rw [← hk]; exact hkL) = x := by rw [hx]; congr 1; exact hk.symm
          rw [hxk] at hnew
          rw [hk] at hset
          have HNEW := Lib.hid hnew
          have HSET := Lib.hid hset
          have HBS := Lib.hid (bit_set B i h0)
          have HLL : Hid ((L.set ((P + i) / 8) (x ^^^ UInt8.ofNat (2 ^ ((P + i) % 8)))).length = (flat ps).length) := Lib.hid (by rw [List.length_set, hL])
          have HKE := Lib.hid (show (((2 ^ ((P + i) % 8) : Nat)) : Int) = (2 : Int) ^ ((P + i) % 8) by rw [Int.natCast_pow]; rfl)
          clear hD hbx hL hx hxk hkL hk h0 hset hnew
          generalize x ^^^ UInt8.ofNat (2 ^ ((P + i) % 8)) = y at hxor HNEW HSET HLL
          go_wp2
          go_roundw
          case rel =>
            refine ⟨i + 1, L.set ((P + i) / 8) y, by have := HI.out; omega, by have := HI.out; omega, by go_num, ?_, HSET.out, HLL.out, HNEW.out, hbw.setCell hgw _⟩
            have e := HBS.out
            simp [e]
          case measure => have := HI.out.1; simp [intOf]; omega
        · have hLs : (⟨L.toArray⟩ : ByteArray).size ≤ 100000 := by rw [size_arr, hL]; have := HN.out; omega
          have HALL := Lib.hid (all_any ⟨L.toArray⟩ hLs wr (HTB.out _ hbw))
          have hcv2 := hbx.conv A.size cg (by rw [hL]; exact HAL.out)
          have HTT : Hid (B % 2 ^ i ≠ 0 → ∀ us, Frames L us → us = ps.take W) := Lib.hid (fun h us hf => by
            have hi2 : B % 2 ^ i < 2 ^ i := Nat.mod_lt _ (Nat.two_pow_pos i)
            have hmm : B % 2 ^ i ≤ B := Nat.mod_le _ _
            have hlt : (B % 2 ^ i) * 2 ^ P < 2 ^ (8 * H) := by
              have h1 : (B % 2 ^ i) * 2 ^ P < 2 ^ i * 2 ^ P := Nat.mul_lt_mul_of_pos_right hi2 (Nat.two_pow_pos P)
              rw [← Nat.pow_add] at h1
              exact Nat.lt_of_lt_of_le h1 (Nat.pow_le_pow_right (by omega) (by omega))
            refine turned_len ps W hW3.out hfine.fine.small L (B % 2 ^ i) P hL hD h (Nat.lt_of_le_of_lt hmm HB32.out) ?_ ?_ us hf
            · rw [← HFF.out]; exact HP1.out
            · rw [← HFF.out, ← HH.out]; exact hlt)
          clear hLs hbx hL hD hH6
          by_cases c1n : i < 32
          · have c2 : ¬ (P : Int) + (i : Int) < 8 * (H : Int) := by omega
            have c1 : (i : Int) < 32 := by omega
            clear hgo hi hPi c1n
            by_cases hm0 : B % 2 ^ i = 0
            · clear hcv2
              go_wp2
              go_ret
              exact ⟨rfl, hbw⟩
            have hall := HALL.out
            have hbw2 := Lib.hid hbw
            go_wp2_with fail
            refine hall.mono ?_
            rintro e w3 ⟨hb3', us, a3, c3, hfr, rfl, hss⟩
            have hus : us = ps.take W := HTT.out hm0 us hfr
            have hul : us.length = W := by rw [hus, List.length_take]; exact Nat.min_eq_left (Nat.le_of_lt hW3.out)
            obtain ⟨_, hgot⟩ := hss.srow
            rw [hus] at hgot
            rw [hul, hus, ← HFF.out]
            have hb3 := hbw.trans (hb3'.mono hbw.size)
            have HGOT := Lib.hid (fun w' (h : Below w3.heap.size w3 w') => hgot.below h)
            have HBW := Lib.hid (fun w' (h : Below w3.heap.size w3 w') => hb3.trans (h.mono hb3.size))
            have hsame : ((F : Int) != (F : Int)) = false := by simp
            have hsame2 : ((W : Int) != (W : Int)) = false := by simp
            clear hall hfr hss hgot hb3' hus hul hbw hb3 hcv2 hbw2 hm0
            go_wp2
            clear hsame hsame2
            go_loopw [142] (fun c wr => ∃ k : Nat, k ≤ W ∧ c = .int .i64 k ∧ Below w3.heap.size w3 wr) (fun c _ => W - (intOf c).toNat)
            case atStart => exact ⟨0, Nat.zero_le _, rfl, Below.refl _ _⟩
            case round =>
              obtain ⟨k, hk, rfl, hbk⟩ := hrel
              have hbw := HBW.out _ hbk
              by_cases hlt : k < W
              · have hWl := hW3.out
                have hkl : k < ps.length := by omega
                have hrow2 := HROW.out _ hbw
                rcases hrow2 with h | ⟨bb3, off3, e3, _, hc⟩
                · rw [h] at hkl; cases hkl
                injection e3 with e3
                injection e3 with e4 e5
                subst e4 e5
                rcases HGOT.out _ hbk with h | ⟨bb2, off2, rfl, _, hc2⟩
                · have h3 : (ps.take W).length = 0 := by rw [h]; rfl
                  rw [List.length_take] at h3
                  omega
                have hck := hc k hkl
                have hck2 := hc2 k (by rw [List.length_take]; omega)
                rw [List.getElem_take] at hck2
                clear hc hc2
                obtain ⟨t2, ht2⟩ : ∃ t, t = ps[k] := ⟨_, rfl⟩
                rw [← ht2] at hck hck2
                have hkll : (k : Int) < (ps.length : Int) := by omega
                have hbkd := hbk.drew
                have hW10 : (W : Int) ≤ 1000 := by have := HL2.out; omega
                clear ht2 hWl hkl hbw
                go_wp2
                go_region
                go_wp2
                go_roundw
                case rel => exact ⟨k + 1, by omega, by go_num, hbkd⟩
                case measure => simp [intOf]; omega
              · go_wp2
                go_ret
                exact ⟨rfl, hbw⟩
          · have c1 : ¬ (i : Int) < 32 := by omega
            clear hgo hi hPi c1n
            by_cases hm0 : B % 2 ^ i = 0
            · clear hcv2
              go_wp2
              go_ret
              exact ⟨rfl, hbw⟩
            have hall := HALL.out
            have hbw2 := Lib.hid hbw
            go_wp2_with fail
            refine hall.mono ?_
            rintro e w3 ⟨hb3', us, a3, c3, hfr, rfl, hss⟩
            have hus : us = ps.take W := HTT.out hm0 us hfr
            have hul : us.length = W := by rw [hus, List.length_take]; exact Nat.min_eq_left (Nat.le_of_lt hW3.out)
            obtain ⟨_, hgot⟩ := hss.srow
            rw [hus] at hgot
            rw [hul, hus, ← HFF.out]
            have hb3 := hbw.trans (hb3'.mono hbw.size)
            have HGOT := Lib.hid (fun w' (h : Below w3.heap.size w3 w') => hgot.below h)
            have HBW := Lib.hid (fun w' (h : Below w3.heap.size w3 w') => hb3.trans (h.mono hb3.size))
            have hsame : ((F : Int) != (F : Int)) = false := by simp
            have hsame2 : ((W : Int) != (W : Int)) = false := by simp
            clear hall hfr hss hgot hb3' hus hul hbw hb3 hcv2 hbw2 hm0
            go_wp2
            clear hsame hsame2
            go_loopw [142] (fun c wr => ∃ k : Nat, k ≤ W ∧ c = .int .i64 k ∧ Below w3.heap.size w3 wr) (fun c _ => W - (intOf c).toNat)
            case atStart => exact ⟨0, Nat.zero_le _, rfl, Below.refl _ _⟩
            case round =>
              obtain ⟨k, hk, rfl, hbk⟩ := hrel
              have hbw := HBW.out _ hbk
              by_cases hlt : k < W
              · have hWl := hW3.out
                have hkl : k < ps.length := by omega
                have hrow2 := HROW.out _ hbw
                rcases hrow2 with h | ⟨bb3, off3, e3, _, hc⟩
                · rw [h] at hkl; cases hkl
                injection e3 with e3
                injection e3 with e4 e5
                subst e4 e5
                rcases HGOT.out _ hbk with h | ⟨bb2, off2, rfl, _, hc2⟩
                · have h3 : (ps.take W).length = 0 := by rw [h]; rfl
                  rw [List.length_take] at h3
                  omega
                have hck := hc k hkl
                have hck2 := hc2 k (by rw [List.length_take]; omega)
                rw [List.getElem_take] at hck2
                clear hc hc2
                obtain ⟨t2, ht2⟩ : ∃ t, t = ps[k] := ⟨_, rfl⟩
                rw [← ht2] at hck hck2
                have hkll : (k : Int) < (ps.length : Int) := by omega
                have hbkd := hbk.drew
                have hW10 : (W : Int) ≤ 1000 := by have := HL2.out; omega
                clear ht2 hWl hkl hbw
                go_wp2
                go_region
                go_wp2
                go_roundw
                case rel => exact ⟨k + 1, by omega, by go_num, hbkd⟩
                case measure => simp [intOf]; omega
              · go_wp2
                go_ret
                exact ⟨rfl, hbw⟩

set_option maxHeartbeats 4000000 in
theorem walk_text (a : Option Addr) (cap : Nat) (ps : List ByteArray) (wh at' : Int) (B : Nat) (w : World) (hT : Tab w) (hrow : SRow w a ps) (hl1 : ps.length ≠ 0) (hl2 : ps.length ≤ 10) (hB : B ≠ 0) (hB32 : B < 4294967296) :
    Calls Tryd.prog 5 #[.slice a ps.length cap, .int .i64 wh, .int .i64 at', .int .u32 B, .bool false] w fun e w' => e = .returned (.bool true) ∧ Below w.heap.size w w' := by
  have h1' : ((ps.length : Int) == 0) = false := by rw [beq_eq_false_iff_ne]; omega
  have h2' : decide ((10 : Int) < (ps.length : Int)) = false := by rw [decide_eq_false_iff_not]; omega
  have h3' : ((B : Int) == 0) = false := by rw [beq_eq_false_iff_ne]; omega
  have h0 := hT.lt
  have hmask := and_mask10 wh
  obtain ⟨q, hq⟩ : ∃ q : Nat, wh % 1024 = (q : Int) := ⟨(wh % 1024).toNat, by omega⟩
  rw [hq] at hmask
  obtain ⟨W, hW⟩ : ∃ W : Nat, W = q % ps.length := ⟨_, rfl⟩
  have hW1 : (q : Int) % (ps.length : Int) = (W : Int) := by rw [hW]; simp
  have hW2 : W < ps.length := by rw [hW]; exact Nat.mod_lt q (by omega)
  have hW3 : Hid (W < ps.length) := Lib.hid hW2
  have hne0 : (ps.length : Int) ≠ 0 := by omega
  have HTB : Hid (∀ w', Below w.heap.size w w' → Tab w') := Lib.hid (fun w' h => hT.below h h0)
  have HROW : Hid (∀ w', Below w.heap.size w w' → SRow w' a ps) := Lib.hid (fun w' h => hrow.below h)
  have HB := Lib.hid hB
  have HB32 := Lib.hid hB32
  have HL1 := Lib.hid hl1
  have HL2 := Lib.hid hl2
  clear hq hW hB hB32 hl1 hl2 hrow hW2
  go_enter Tryd.func5, Tryd.ntmps5
  go_wp2_with fail
  refine (head_any _ hT).mono ?_
  rintro e w1 ⟨rfl, hb1⟩
  go_wp2
  rw [hW1]
  clear h1' h2' h3' hW1 hne0 hmask
  go_loopw [11, 12, 44] (fun all f c wr => ∃ k : Nat, k ≤ ps.length ∧ c = .int .i64 k ∧ all = .string ⟨(flat (ps.take k)).toArray⟩ ∧ f = .int .i64 (fromAt ps W k : Nat) ∧ fine2 (ps.take k) ∧ Below w.heap.size w wr) (fun _ _ c _ => ps.length - (intOf c).toNat)
  case atStart => exact ⟨0, Nat.zero_le _, rfl, rfl, rfl, (fun _ h => by cases h), hb1⟩
  case round =>
    obtain ⟨k, hk, rfl, rfl, rfl, hfine, hb⟩ := hrel
    have hz := hb.size
    by_cases hlt : k < ps.length
    · rcases HROW.out wr hb with h | ⟨bb, off, rfl, _, hc⟩
      · rw [h] at hlt; cases hlt
      have hck := hc k hlt
      have hTr := HTB.out wr hb
      obtain ⟨t, ht⟩ : ∃ t, t = ps[k] := ⟨_, rfl⟩
      have htk := take_snocS ps k hlt
      rw [← ht] at hck htk
      clear hc ht
      have hkb : (k : Int) ≤ 1000 := by have := HL2.out; omega
      by_cases hbig : 200 < t.size
      · have hbig' : (200 : Int) < (t.size : Int) := by omega
        go_wp2
        go_ret
        exact ⟨rfl, hb⟩
      · have hbig' : ¬ (200 : Int) < (t.size : Int) := by omega
        have hone := one_any t (by omega)
        have hF2 : (⟨(flat (ps.take k)).toArray⟩ : ByteArray) ++ ⟨(frm t.data.toList).toArray⟩ = ⟨(flat (ps.take (k + 1))).toArray⟩ := by
          rw [htk, flat_snoc]
          apply ByteArray.ext
          simp [ByteArray.data_append]
        have hfine2 : fine2 (ps.take (k + 1)) := by
          rw [htk]
          intro x hx
          rcases List.mem_append.1 hx with h | h
          · exact hfine x h
          · simp at h; subst h; omega
        have hsz := flat_size _ hfine.fine
        have hl2 : (ps.take k).length = k := by rw [List.length_take]; omega
        rw [hl2] at hsz
        have hklen := HL2.out
        have hX : (⟨(flat (ps.take k)).toArray⟩ : ByteArray).size ≤ 10000 := by rw [size_arr]; omega
        have hFs : (⟨(frm t.data.toList).toArray⟩ : ByteArray).size ≤ 1000 := by rw [size_arr, frm_length, bytes_len]; omega
        have hfr : Hid ((if k = W then (⟨(flat (ps.take k)).toArray⟩ : ByteArray).size else fromAt ps W k) = fromAt ps W (k + 1)) := Lib.hid (by
          unfold fromAt
          rw [size_arr]
          by_cases h1 : k = W
          · subst h1; simp
          · by_cases h2 : W < k
            · rw [if_neg h1, if_pos h2, if_pos (by omega)]
            · rw [if_neg h1, if_neg h2, if_neg (by omega)])
        generalize (⟨(flat (ps.take k)).toArray⟩ : ByteArray) = X at hF2 hX hfr
        generalize (⟨(frm t.data.toList).toArray⟩ : ByteArray) = F at hF2 hFs hone
        have HF2 := Lib.hid hF2
        have HFN := Lib.hid hfine2
        have HONE := Lib.hid hone
        clear hF2 htk hfine2 hsz hl2 hone hfine hklen hbig
        by_cases hkW : k = W
        · subst hkW
          rw [if_pos rfl] at hfr
          go_wp2_with fail
          refine (HONE.out _ hTr).mono ?_
          rintro e w3 ⟨rfl, hb3'⟩
          have hb3 := hb.trans (hb3'.mono hz)
          go_wp2
          go_roundw
          case rel => exact ⟨k + 1, by omega, by go_num, by rw [HF2.out], by rw [← hfr.out], HFN.out, hb3⟩
          case measure => simp [intOf]; omega
        · have hkW' : ((k : Int) == (W : Int)) = false := by rw [beq_eq_false_iff_ne]; omega
          rw [if_neg hkW] at hfr
          go_wp2_with fail
          refine (HONE.out _ hTr).mono ?_
          rintro e w3 ⟨rfl, hb3'⟩
          have hb3 := hb.trans (hb3'.mono hz)
          go_wp2
          go_roundw
          case rel => exact ⟨k + 1, by omega, by go_num, by rw [HF2.out], by rw [hfr.out], HFN.out, hb3⟩
          case measure => simp [intOf]; omega
    · have ek : k = ps.length := by omega
      subst ek
      rw [List.take_of_length_le (Nat.le_refl _)] at hfine ⊢
      have hsz := flat_size ps hfine.fine
      have hW2 := hW3.out
      have hF0 : fromAt ps W ps.length = (flat (ps.take W)).length := if_pos hW2
      rw [hF0]
      have hFN : (flat (ps.take W)).length + 12 + (ps[W]'hW3.out).size ≤ (flat ps).length := by
        have e := congrArg List.length (flat_at ps W hW2)
        rw [List.length_append, List.length_append, frm_length, bytes_len] at e
        omega
      have hAl : (⟨(flat ps).toArray⟩ : ByteArray).size = (flat ps).length := size_arr _
      have hAd : (⟨(flat ps).toArray⟩ : ByteArray).data.toList = flat ps := rfl
      obtain ⟨A, hA⟩ : ∃ A : ByteArray, A = ⟨(flat ps).toArray⟩ := ⟨_, rfl⟩
      rw [← hA] at hAl hAd ⊢
      have hN : (flat ps).length ≤ 5000 := by have := HL2.out; omega
      have hrowW := HROW.out wr hb
      rcases hrowW with h | ⟨bb, off, rfl, _, hc⟩
      · rw [h] at hW2; cases hW2
      have hcW : wr.cell? ⟨bb, off + W, none⟩ = some (.string (ps[W]'hW3.out)) := hc W hW2
      have HFN := Lib.hid hFN
      have htl : (ps[W]'hW3.out).size ≤ 5000 := by omega
      have hF5 : (flat (ps.take W)).length ≤ 5000 := by omega
      have ht0 : ∃ t, t = ps[W]'hW3.out := ⟨_, rfl⟩
      obtain ⟨t, ht⟩ := ht0
      rw [← ht] at hcW hFN htl
      have HT := Lib.hid ht
      have HF : ∃ F, F = (flat (ps.take W)).length := ⟨_, rfl⟩
      obtain ⟨F, hF⟩ := HF
      rw [← hF] at hFN hF5 ⊢
      have HFF := Lib.hid hF
      have HAL := Lib.hid hAl
      have HAD := Lib.hid hAd
      have HN := Lib.hid hN
      have HSZ := Lib.hid hsz
      have hmask2 := and_mask16 at'
      obtain ⟨r, hr⟩ : ∃ r : Nat, at' % 65536 = (r : Int) := ⟨(at' % 65536).toNat, by omega⟩
      rw [hr] at hmask2
      obtain ⟨g, w2, cg, N, hcv, hbb, hgw, hb2⟩ := bytes_of A w wr hb
      rw [hAd] at hbb
      have hF6 : (F : Int) ≤ 5000 := by omega
      have ht6 : (t.size : Int) ≤ 5000 := by omega
      have hbW : (W : Int) < (ps.length : Int) := by omega
      have HFN2 := Lib.hid hFN
      clear ht hF hAl hAd hA hN hsz hFN htl hF5 hc hr hF0 hW2 hk hlt
      by_cases ht00 : t.size = 0
      · have hz0 : ((F : Int) + 12 == (F : Int) + 12 + (t.size : Int)) = true := by rw [ht00]; simp
        clear hcv hbb hb2 hmask2
        go_wp2
        go_ret
        exact ⟨rfl, hb⟩
      have hmod := Nat.mod_lt r (show 0 < 8 * t.size by omega)
      have HR := Lib.hid (at_text F t.size r (by omega) (by omega) (by omega))
      generalize r % (8 * t.size) = r2 at hmod HR
      obtain ⟨P, hPd⟩ : ∃ P, P = 8 * (F + 12) + r2 := ⟨_, rfl⟩
      have hP1 : 8 * (F + 12) ≤ P := by omega
      have hP2 : P < 8 * (F + 12 + t.size) := by omega
      obtain ⟨H, hH⟩ : ∃ H, H = F + 12 + t.size := ⟨_, rfl⟩
      have HH := Lib.hid hH
      have HP1 := Lib.hid hP1
      have HPH : Hid (P ≤ 8 * H) := Lib.hid (by omega)
      have HHN : Hid (H ≤ (flat ps).length) := Lib.hid (by have := HFN2.out; omega)
      have HHB : Hid (H ≤ 6000) := Lib.hid (by have := HFN2.out; have := HN.out; omega)
      have hHi : Hid ((F : Int) + 12 + (t.size : Int) = (H : Int)) := Lib.hid (by omega)
      have HPP : Hid (wrap64 (8 * ((F : Int) + 12) + (r : Int) % (8 * ((F : Int) + 12 + (t.size : Int) - ((F : Int) + 12)))) = (P : Int)) := Lib.hid (by rw [hPd]; exact HR.out)
      clear hPd hP1 hP2 hH
      go_wp2
      rw [HPP.out]
      clear hmask2 hcv hbW hF6 ht6 hcW hb
      rw [hHi.out]
      go_loopw [18, 19] (fun tu c wx => ∃ (i : Nat) (L : List UInt8), i ≤ 32 ∧ P + i ≤ 8 * H ∧ c = .int .i64 i ∧ tu = .bool (!decide (B % 2 ^ i = 0)) ∧ BB wx g L N ∧ L.length = (flat ps).length ∧ leN L ^^^ leN (flat ps) = (B % 2 ^ i) * 2 ^ P ∧ Below w.heap.size w wx) (fun _ c _ => 32 - (intOf c).toNat)
      case atStart => exact ⟨0, flat ps, by omega, HPH.out, rfl, by rw [Nat.pow_zero, Nat.mod_one]; rfl, hbb, rfl, by rw [Nat.pow_zero, Nat.mod_one, Nat.xor_self, Nat.zero_mul], hb2⟩
      case round =>
        obtain ⟨i, L, hi, hPi, rfl, rfl, hbx, hL, hD, hbw⟩ := hrel
        have hH6 := HHB.out
        have cP : (P : Int) ≤ 50000 := by omega
        have cH : (H : Int) ≤ 6000 := by omega
        by_cases hgo : i < 32 ∧ P + i < 8 * H
        · have c1 : (i : Int) < 32 := by omega
          have c2 : (P : Int) + (i : Int) < 8 * (H : Int) := by omega
          have HI := Lib.hid hgo
          clear hi hPi hgo hH6
          have hbit := bit_int B i HB32.out
          obtain ⟨k, hk⟩ : ∃ k, k = (P + i) / 8 := ⟨_, rfl⟩
          have hkL : k < L.length := by
            have h1 := HI.out.2
            have h2 := HHN.out
            omega
          obtain ⟨x, hx⟩ : ∃ x, x = L[k]'hkL := ⟨_, rfl⟩
          have hck : wr.cell? ⟨g, (P + i) / 8, none⟩ = some (.int .u8 (x.toNat : Nat)) := by rw [hx, ← hk]; exact hbx.cell k hkL
          have hfk : wr.frozen? ⟨g, (P + i) / 8, none⟩ = false := by rw [← hk]; exact hbx.free k hkL
          have hLb := x.toNat_lt
          rcases Nat.mod_two_eq_zero_or_one (B / 2 ^ i) with h0 | h0
          · rw [h0] at hbit
            clear hck hfk hLb
            have hmore : Hid (B % 2 ^ (i + 1) = B % 2 ^ i) := Lib.hid (by rw [Nat.pow_succ, Nat.mod_mul, h0]; simp)
            have hDD := Lib.hid hD
            have HBX := Lib.hid hbx
            have HLL := Lib.hid hL
            clear hD hbx hL hx hkL hk h0
            go_wp2
            go_roundw
            case rel => exact ⟨i + 1, L, by have := HI.out; omega, by have := HI.out; omega, by go_num, by rw [hmore.out], HBX.out, HLL.out, by rw [hmore.out]; exact hDD.out, hbw⟩
            case measure => have := HI.out.1; simp [intOf]; omega
          rw [h0] at hbit
          have hxor := xor_bit x ((P + i) % 8) (Nat.mod_lt _ (by omega))
          have hkA : ((P : Int) + (i : Int)) / 8 < (A.size : Int) := by have := HAL.out; omega
          have hset := hbx.set k (x ^^^ UInt8.ofNat (2 ^ ((P + i) % 8)))
          have hnew := set_bit L (P + i) (leN (flat ps)) B P i rfl (by rw [← hk]; exact hkL) hD h0
          have hxk : L[(P + i) / 8]'(by rw [← hk]; exact hkL) = x := by rw [hx]; congr 1; exact hk.symm
          rw [hxk] at hnew
          rw [hk] at hset
          have HNEW := Lib.hid hnew
          have HSET := Lib.hid hset
          have HBS := Lib.hid (bit_set B i h0)
          have HLL : Hid ((L.set ((P + i) / 8) (x ^^^ UInt8.ofNat (2 ^ ((P + i) % 8)))).length = (flat ps).length) := Lib.hid (by rw [List.length_set, hL])
          have HKE := Lib.hid (show (((2 ^ ((P + i) % 8) : Nat)) : Int) = (2 : Int) ^ ((P + i) % 8) by rw [Int.natCast_pow]; rfl)
          clear hD hbx hL hx hxk hkL hk h0 hset hnew
          generalize x ^^^ UInt8.ofNat (2 ^ ((P + i) % 8)) = y at hxor HNEW HSET HLL
          go_wp2
          go_roundw
          case rel =>
            refine ⟨i + 1, L.set ((P + i) / 8) y, by have := HI.out; omega, by have := HI.out; omega, by go_num, ?_, HSET.out, HLL.out, HNEW.out, hbw.setCell hgw _⟩
            have e := HBS.out
            simp [e]
          case measure => have := HI.out.1; simp [intOf]; omega
        · have hLs : (⟨L.toArray⟩ : ByteArray).size ≤ 100000 := by rw [size_arr, hL]; have := HN.out; omega
          have HALL := Lib.hid (all_any ⟨L.toArray⟩ hLs wr (HTB.out _ hbw))
          have hcv2 := hbx.conv A.size cg (by rw [hL]; exact HAL.out)
          have HTT : Hid (B % 2 ^ i ≠ 0 → ∀ us, Frames L us → us = ps.take W) := Lib.hid (fun h us hf => by
            have hi2 : B % 2 ^ i < 2 ^ i := Nat.mod_lt _ (Nat.two_pow_pos i)
            have hmm : B % 2 ^ i ≤ B := Nat.mod_le _ _
            have hlt : (B % 2 ^ i) * 2 ^ P < 2 ^ (8 * H) := by
              have h1 : (B % 2 ^ i) * 2 ^ P < 2 ^ i * 2 ^ P := Nat.mul_lt_mul_of_pos_right hi2 (Nat.two_pow_pos P)
              rw [← Nat.pow_add] at h1
              exact Nat.lt_of_lt_of_le h1 (Nat.pow_le_pow_right (by omega) (by omega))
            refine turned_text ps W hW3.out hfine.fine.small L (B % 2 ^ i) P hL hD h (Nat.lt_of_le_of_lt hmm HB32.out) ?_ ?_ us hf
            · rw [← HFF.out]; exact HP1.out
            · rw [← HFF.out, ← HT.out, ← HH.out]; exact hlt)
          clear hLs hbx hL hD hH6
          by_cases c1n : i < 32
          · have c2 : ¬ (P : Int) + (i : Int) < 8 * (H : Int) := by omega
            have c1 : (i : Int) < 32 := by omega
            clear hgo hi hPi c1n
            by_cases hm0 : B % 2 ^ i = 0
            · clear hcv2
              go_wp2
              go_ret
              exact ⟨rfl, hbw⟩
            have hall := HALL.out
            have hbw2 := Lib.hid hbw
            go_wp2_with fail
            refine hall.mono ?_
            rintro e w3 ⟨hb3', us, a3, c3, hfr, rfl, hss⟩
            have hus : us = ps.take W := HTT.out hm0 us hfr
            have hul : us.length = W := by rw [hus, List.length_take]; exact Nat.min_eq_left (Nat.le_of_lt hW3.out)
            obtain ⟨_, hgot⟩ := hss.srow
            rw [hus] at hgot
            rw [hul, hus, ← HFF.out]
            have hb3 := hbw.trans (hb3'.mono hbw.size)
            have HGOT := Lib.hid (fun w' (h : Below w3.heap.size w3 w') => hgot.below h)
            have HBW := Lib.hid (fun w' (h : Below w3.heap.size w3 w') => hb3.trans (h.mono hb3.size))
            have hsame : ((F : Int) != (F : Int)) = false := by simp
            have hsame2 : ((W : Int) != (W : Int)) = false := by simp
            clear hall hfr hss hgot hb3' hus hul hbw hb3 hcv2 hbw2 hm0
            go_wp2
            clear hsame hsame2
            go_loopw [142] (fun c wr => ∃ k : Nat, k ≤ W ∧ c = .int .i64 k ∧ Below w3.heap.size w3 wr) (fun c _ => W - (intOf c).toNat)
            case atStart => exact ⟨0, Nat.zero_le _, rfl, Below.refl _ _⟩
            case round =>
              obtain ⟨k, hk, rfl, hbk⟩ := hrel
              have hbw := HBW.out _ hbk
              by_cases hlt : k < W
              · have hWl := hW3.out
                have hkl : k < ps.length := by omega
                have hrow2 := HROW.out _ hbw
                rcases hrow2 with h | ⟨bb3, off3, e3, _, hc⟩
                · rw [h] at hkl; cases hkl
                injection e3 with e3
                injection e3 with e4 e5
                subst e4 e5
                rcases HGOT.out _ hbk with h | ⟨bb2, off2, rfl, _, hc2⟩
                · have h3 : (ps.take W).length = 0 := by rw [h]; rfl
                  rw [List.length_take] at h3
                  omega
                have hck := hc k hkl
                have hck2 := hc2 k (by rw [List.length_take]; omega)
                rw [List.getElem_take] at hck2
                clear hc hc2
                obtain ⟨t2, ht2⟩ : ∃ t, t = ps[k] := ⟨_, rfl⟩
                rw [← ht2] at hck hck2
                have hkll : (k : Int) < (ps.length : Int) := by omega
                have hbkd := hbk.drew
                have hW10 : (W : Int) ≤ 1000 := by have := HL2.out; omega
                clear ht2 hWl hkl hbw
                go_wp2
                go_region
                go_wp2
                go_roundw
                case rel => exact ⟨k + 1, by omega, by go_num, hbkd⟩
                case measure => simp [intOf]; omega
              · go_wp2
                go_ret
                exact ⟨rfl, hbw⟩
          · have c1 : ¬ (i : Int) < 32 := by omega
            clear hgo hi hPi c1n
            by_cases hm0 : B % 2 ^ i = 0
            · clear hcv2
              go_wp2
              go_ret
              exact ⟨rfl, hbw⟩
            have hall := HALL.out
            have hbw2 := Lib.hid hbw
            go_wp2_with fail
            refine hall.mono ?_
            rintro e w3 ⟨hb3', us, a3, c3, hfr, rfl, hss⟩
            have hus : us = ps.take W := HTT.out hm0 us hfr
            have hul : us.length = W := by rw [hus, List.length_take]; exact Nat.min_eq_left (Nat.le_of_lt hW3.out)
            obtain ⟨_, hgot⟩ := hss.srow
            rw [hus] at hgot
            rw [hul, hus, ← HFF.out]
            have hb3 := hbw.trans (hb3'.mono hbw.size)
            have HGOT := Lib.hid (fun w' (h : Below w3.heap.size w3 w') => hgot.below h)
            have HBW := Lib.hid (fun w' (h : Below w3.heap.size w3 w') => hb3.trans (h.mono hb3.size))
            have hsame : ((F : Int) != (F : Int)) = false := by simp
            have hsame2 : ((W : Int) != (W : Int)) = false := by simp
            clear hall hfr hss hgot hb3' hus hul hbw hb3 hcv2 hbw2 hm0
            go_wp2
            clear hsame hsame2
            go_loopw [142] (fun c wr => ∃ k : Nat, k ≤ W ∧ c = .int .i64 k ∧ Below w3.heap.size w3 wr) (fun c _ => W - (intOf c).toNat)
            case atStart => exact ⟨0, Nat.zero_le _, rfl, Below.refl _ _⟩
            case round =>
              obtain ⟨k, hk, rfl, hbk⟩ := hrel
              have hbw := HBW.out _ hbk
              by_cases hlt : k < W
              · have hWl := hW3.out
                have hkl : k < ps.length := by omega
                have hrow2 := HROW.out _ hbw
                rcases hrow2 with h | ⟨bb3, off3, e3, _, hc⟩
                · rw [h] at hkl; cases hkl
                injection e3 with e3
                injection e3 with e4 e5
                subst e4 e5
                rcases HGOT.out _ hbk with h | ⟨bb2, off2, rfl, _, hc2⟩
                · have h3 : (ps.take W).length = 0 := by rw [h]; rfl
                  rw [List.length_take] at h3
                  omega
                have hck := hc k hkl
                have hck2 := hc2 k (by rw [List.length_take]; omega)
                rw [List.getElem_take] at hck2
                clear hc hc2
                obtain ⟨t2, ht2⟩ : ∃ t, t = ps[k] := ⟨_, rfl⟩
                rw [← ht2] at hck hck2
                have hkll : (k : Int) < (ps.length : Int) := by omega
                have hbkd := hbk.drew
                have hW10 : (W : Int) ≤ 1000 := by have := HL2.out; omega
                clear ht2 hWl hkl hbw
                go_wp2
                go_region
                go_wp2
                go_roundw
                case rel => exact ⟨k + 1, by omega, by go_num, hbkd⟩
                case measure => simp [intOf]; omega
              · go_wp2
                go_ret
                exact ⟨rfl, hbw⟩

theorem walk {w : World} (a : Option Addr) (len cap : Nat) (hr : ∃ ps, Came w a len cap ps) (wh : Int) (_w1 : (Lit.int .i64 wh).wf = true) (at' : Int) (_w2 : (Lit.int .i64 at').wf = true) (bits : Int) (w3 : (Lit.int .u32 bits).wf = true) (lg : Bool) (hT : Tab w) :
    Calls Tryd.prog 5 #[.slice a len cap, .int .i64 wh, .int .i64 at', .int .u32 bits, .bool lg] w fun e w' => e = .returned (.bool true) ∧ Below w.heap.size w w' := by
  have h3 : 0 ≤ bits ∧ bits ≤ 4294967295 := by simpa [Lit.wf, IntKind.min, IntKind.max, IntKind.signed, IntKind.bits] using w3
  obtain ⟨B, rfl⟩ : ∃ B : Nat, bits = B := ⟨bits.toNat, by omega⟩
  obtain ⟨ps, hrow, hl, _⟩ := hr
  subst hl
  by_cases h0 : ps.length = 0
  · exact walk_out a ps.length cap wh at' B lg w hT (.inl h0)
  · by_cases h1 : 10 < ps.length
    · exact walk_out a ps.length cap wh at' B lg w hT (.inr (.inl h1))
    · by_cases h2 : B = 0
      · exact walk_out a ps.length cap wh at' B lg w hT (.inr (.inr h2))
      · cases lg
        · exact walk_text a cap ps wh at' B w hT hrow h0 (by omega) h2 (by omega)
        · exact walk_len a cap ps wh at' B w hT hrow h0 (by omega) h2 (by omega)

end Go.Proofs.YtdakodljpgnkdaaDoor.frameTurns
