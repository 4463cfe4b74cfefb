/-
  ValDeep: for every number the law's function returns true, and writes nothing that was there.
-/
import Derived.Test.YtmpdmiloolbpbaaVOfList
import Derived.Test.YtmpdmiloolbpbaaVReads
import Derived.Test.YtmpdmiloolbpbaaVSame
import Derived.Outline
namespace Go.Proofs.Ytmpdmiloolbpbaa

theorem and_mask6 (n : Int) : bits .and .i64 n 63 = n % 64 := by
  have hc : (BitVec.ofInt 64 63).toNat = 2 ^ 6 - 1 := by decide
  have key : (BitVec.ofInt 64 n &&& BitVec.ofInt 64 63).toNat = (n % ((2 ^ 64 : Nat) : Int)).toNat % 2 ^ 6 := by
    rw [BitVec.toNat_and, BitVec.toNat_ofInt, hc, Nat.and_two_pow_sub_one_eq_mod]
  show IntKind.i64.wrap ((BitVec.ofInt 64 n &&& BitVec.ofInt 64 63).toNat : Nat) = n % 64
  rw [key, IntKind.wrap_i64]
  omega

/-- the number 5, in so many lists -/
def nestV : Nat → V
  | 0 => V.ofInt 5
  | k + 1 => V.ofList [nestV k]

theorem nest_lay (k : Nat) : (nestV (k + 1)).lay = 4 :: 1 :: 1 :: (nestV k).lay := by
  rw [nestV, lay_ofList]
  have e : octN ([nestV k] : List V).length = [1, 1] := by
    show octN 1 = [1, 1]
    kernel_rfl
  rw [e]
  simp [layL]

theorem nest_lay0 : (nestV 0).lay = [2, 0, 1, 10] := by kernel_rfl

theorem nest_len (k : Nat) : (nestV k).lay.length = 3 * k + 4 := by
  induction k with
  | zero => rw [nest_lay0]; rfl
  | succ k ih => rw [nest_lay]; simp [ih]; omega

theorem nest_right : ∀ (k : Nat) (d : Int), (nestV k).right d = decide ((k : Int) + 1 ≤ d)
  | 0, d => by
    by_cases h : 1 ≤ d
    · rw [nestV, right_ofInt 5 h, decide_eq_true (by omega)]
    · rw [decide_eq_false (by omega), nestV, V.ofInt, V.right, decide_eq_false (by omega)]; rfl
  | k + 1, d => by
    by_cases h : ((k + 1 : Nat) : Int) + 1 ≤ d
    · rw [decide_eq_true h, nestV, right_ofList _ (by omega)]
      intro x hx
      obtain rfl : x = nestV k := by simpa using hx
      rw [nest_right k]; exact decide_eq_true (by omega)
    · rw [decide_eq_false h, nestV, V.ofList, V.right, rightL, nest_right k]
      by_cases h2 : 1 ≤ d
      · rw [decide_eq_false (p := (k : Int) + 1 ≤ d - 1) (by omega)]; simp
      · rw [decide_eq_false (p := 1 ≤ d) h2]; rfl

theorem nest_n64 : ∀ k : Nat, (nestV k).n64
  | 0 => ⟨by unfold Is64; omega, trivial, trivial⟩
  | k + 1 => ⟨by unfold Is64; omega, ⟨nest_n64 k, trivial⟩, trivial⟩

theorem nest_sm : ∀ k : Nat, (nestV k).sm
  | 0 => ⟨⟨by decide, by decide⟩, trivial, trivial⟩
  | k + 1 => ⟨⟨by simp, by simp⟩, ⟨nest_sm k, trivial⟩, trivial⟩

theorem numRead_one (r : L8) : numRead (1 :: 1 :: r) 9223372036854775807 = some (1, r) := by
  have h := numRead_laid 1 9223372036854775807 r (by omega)
  rw [if_pos (by omega)] at h
  have e : octN 1 = [1, 1] := by kernel_rfl
  rw [e] at h
  exact h

theorem nest_deep : ∀ (d k : Nat) (r : L8), d ≤ k → decV d ((nestV k).lay ++ r) = .inl 3
  | 0, k, r, _ => rfl
  | d + 1, 0, r, h => by omega
  | d + 1, k + 1, r, h => by
    rw [nest_lay, show (4 :: 1 :: 1 :: (nestV k).lay) ++ r = 4 :: 1 :: 1 :: ((nestV k).lay ++ r) by simp, decV_list, numRead_one]
    simp only
    rw [decList, nest_deep d k r (by omega)]

theorem nest_dec (k : Nat) (h : k ≤ 62) : decOf (nestV k).lay = if k ≤ 31 then .inr (nestV k) else .inl 3 := by
  have hl := nest_len k
  unfold decOf
  rw [if_neg (by omega)]
  by_cases h1 : k ≤ 31
  · have hd := decV_laid 32 (nestV k) [] (by rw [nest_right]; exact decide_eq_true (by omega)) (nest_n64 k) (by omega)
    rw [List.append_nil] at hd
    rw [if_pos h1, hd]
  · have hd := nest_deep 32 k [] (by omega)
    rw [List.append_nil] at hd
    rw [if_neg h1, hd]

theorem nest_enc (k : Nat) (h : k ≤ 62) : encOf (nestV k) = if k ≤ 31 then .tuple #[.string ⟨(nestV k).lay.toArray⟩, .int .i64 0] else .tuple #[.string ⟨#[]⟩, .int .i64 1] := by
  have hl := nest_len k
  unfold encOf
  rw [nest_right]
  by_cases h1 : k ≤ 31
  · rw [if_pos h1, if_pos (decide_eq_true (by omega)), if_pos (by omega)]
  · rw [if_neg h1, if_neg (by rw [decide_eq_false (by omega)]; decide)]

theorem nest_fit (k : Nat) (h : k ≤ 62) : (nestV k).right 32 = true → (nestV k).fit := fun hr => fit_of_lay 32 _ hr (nest_n64 k) (by have := nest_len k; omega)

end Go.Proofs.Ytmpdmiloolbpbaa
namespace Go.Proofs.Ytmpdmiloolbpbaa.valDeep
open Go.RowKit

set_option maxHeartbeats 4000000 in
set_option maxRecDepth 100000 in
theorem walk (n : Int) (_w0 : (Lit.int .i64 n).wf = true) (w : World) :
    Calls Try.prog 7 #[.int .i64 n] w fun e w' => e = .returned (.bool true) ∧ Below w.heap.size w w' := by
  obtain ⟨m, hm⟩ : ∃ m : Nat, n % 64 = m := ⟨(n % 64).toNat, by omega⟩
  have hmask := and_mask6 n
  rw [hm] at hmask
  have hm2 : m < 64 := by omega
  clear hm
  go_enter Try.func7, Try.ntmps7
  go_wp2_with fail
  refine (head_any _).mono ?_
  rintro e w1 ⟨rfl, hb1⟩
  have hz1 := hb1.size
  go_wp2_with fail
  refine (ofInt_any 5 _).mono ?_
  rintro e w2 ⟨rfl, hb2⟩
  have hb2w := hb1.trans (hb2.mono hz1)
  have hz2 := hb2w.size
  clear hmask hb1 hb2
  go_wp2_with fail
  go_loopw [4, 5] (fun b i wr => ∃ (k : Nat) (lv fv : Value), (k + 1 ≤ m ∨ k = 0) ∧ i = .int .i64 ((k : Int) + 1) ∧ b = .string ⟨(nestV k).lay.toArray⟩ ∧ Below w.heap.size w wr ∧ Box wr w2.heap.size 26 ((nestV k).cells lv fv).toArray ∧ (nestV k).At wr (fun q => w2.heap.size < q) lv fv) (fun _ i _ => m - (intOf i).toNat)
  case atStart =>
    refine ⟨0, .slice none 0 0, .slice none 0 0, .inr rfl, rfl, ?_, hb2w.alloc hz2 _, Box.new w2 _ _, none_at _ _ _ rfl rfl⟩
    rw [nest_lay0]
  case round =>
    obtain ⟨k, lv, fv, hk, rfl, rfl, hbr, hBox, hat⟩ := hrel
    obtain ⟨⟨ax, cx, rfl⟩, ⟨ay, cy, rfl⟩, _, _⟩ := hat.is.len
    have hbox6 : Box wr w2.heap.size 26 #[.int .i64 (nestV k).kind, .bool (nestV k).yes, .int .i64 (nestV k).num, .string (nestV k).text, .slice ax (nestV k).list.length cx, .slice ay (nestV k).fields.length cy] := hBox
    obtain ⟨⟨x0, x1, x2, x3, x4, x5⟩, f0, f1, f2, f3, f4, f5⟩ := hbox6.six
    have hlt0 := hBox.lt
    have hzr := hbr.size
    clear hBox
    by_cases hkm : k + 1 < m
    · have hkm' : (k : Int) + 1 < (m : Int) := by omega
      -- the one value, in a block of its own
      have hbn : Below wr.heap.size wr (wr.alloc (.cells #[.int .i64 (nestV k).kind, .bool (nestV k).yes, .int .i64 (nestV k).num, .string (nestV k).text, .slice ax (nestV k).list.length cx, .slice ay (nestV k).fields.length cy] 26)) := (Below.refl _ wr).alloc (Nat.le_refl _) _
      have hone : ∀ c, 1 ≤ c → c ≤ 100 → LAt (wr.alloc (.cells #[.int .i64 (nestV k).kind, .bool (nestV k).yes, .int .i64 (nestV k).num, .string (nestV k).text, .slice ax (nestV k).list.length cx, .slice ay (nestV k).fields.length cy] 26)) All [nestV k] (.slice (some ⟨wr.heap.size, 0, none⟩) 1 c) :=
        fun c h1 h2 => one_at (v := nestV k) (Box.new wr _ _) trivial h1 h2 (V.At.is (V.At.below hat hbn))
      have hof := ofList_any [nestV k] (fun x hx => by rw [List.mem_singleton.1 hx]; exact nest_sm k) (by simp) _ _ (hone 1 (by omega) (by omega))
      have hlay := Lib.hid (nest_lay k)
      have HK := Lib.hid (show V.ofList [nestV k] = nestV (k + 1) from rfl)
      have hboxn : Box (wr.alloc (.cells #[.int .i64 (nestV k).kind, .bool (nestV k).yes, .int .i64 (nestV k).num, .string (nestV k).text, .slice ax (nestV k).list.length cx, .slice ay (nestV k).fields.length cy] 26)) w2.heap.size 26 #[.int .i64 (nestV k).kind, .bool (nestV k).yes, .int .i64 (nestV k).num, .string (nestV k).text, .slice ax (nestV k).list.length cx, .slice ay (nestV k).fields.length cy] := hbox6.alloc _
      have HX := Lib.hid (And.intro hbn (And.intro hboxn hbox6))
      obtain ⟨s, hs⟩ : ∃ s, s = (ByteArray.mk (nestV k).lay.toArray) := ⟨_, rfl⟩
      have hsn : Hid (ByteArray.mk #[4, 1, 1] ++ s = ByteArray.mk (nestV (k + 1)).lay.toArray) := Lib.hid (by rw [hs, nest_lay]; apply ByteArray.ext; simp [ByteArray.data_append])
      have hss : s.size ≤ 1000 := by
        rw [hs]
        show (nestV k).lay.length ≤ 1000
        rw [nest_len]
        omega
      rw [← hs]
      clear hs hone hbn hboxn hbox6 hat
      go_wp2_with fail
      refine hof.mono ?_
      rintro e w4 ⟨lv', rfl, hat4, hb4⟩
      obtain ⟨hbn, hboxn, hbox6⟩ := HX.out
      obtain ⟨⟨qx, qc, rfl⟩, _, _, _⟩ := hat4.is.len
      have hb4' := hbn.trans (hb4.mono (by simp))
      have hbox4 : Box w4 w2.heap.size 26 #[.int .i64 (nestV k).kind, .bool (nestV k).yes, .int .i64 (nestV k).num, .string (nestV k).text, .slice ax (nestV k).list.length cx, .slice ay (nestV k).fields.length cy] := (hb4'.block _ hlt0).trans hbox6
      have hb5 := Below.sets [.int .i64 4, .bool false, .int .i64 0, .string ⟨#[]⟩, .slice qx [nestV k].length qc, .slice none 0 0] 0 (hbr.trans (hb4'.mono hzr)) hz2 (g := w2.heap.size)
      have hbox5 := Box.sets [.int .i64 4, .bool false, .int .i64 0, .string ⟨#[]⟩, .slice qx [nestV k].length qc, .slice none 0 0] 0 hbox4
      have hat5 : (nestV (k + 1)).At (sets w4 w2.heap.size 0 [.int .i64 4, .bool false, .int .i64 0, .string ⟨#[]⟩, .slice qx [nestV k].length qc, .slice none 0 0]) (fun q => w2.heap.size < q) (.slice qx [nestV k].length qc) (.slice none 0 0) := by
        rw [← HK.out]
        exact V.At.move (fun b hb _ => ⟨by simp at hb; omega, sets_far _ _ _ _ (by simp at hb; omega)⟩) (by rw [sets_size]; exact Nat.le_refl _) _ (Nat.le_refl _) hat4
      obtain ⟨⟨y0, y1, y2, y3, y4, y5⟩, g0, g1, g2, g3, g4, g5⟩ := hbox4.six
      have HE := Lib.hid (And.intro hb5 (And.intro hbox5 hat5))
      clear hb5 hbox5 hat5
      clear hof hat4 hb4 hbn hboxn hbox6 hb4' hbox4 x0 x1 x2 x3 x4 x5 f0 f1 f2 f3 f4 f5
      go_wp2
      go_roundw
      case rel => exact ⟨k + 1, _, _, .inl (by omega), by go_num, by rw [← hsn.out], HE.out.1, HE.out.2.1, HE.out.2.2⟩
      case measure => simp [intOf]; omega
    · have hge : ¬ (k : Int) + 1 < (m : Int) := by omega
      have henc := enc_any (nestV k) _ _ wr hat.is (nest_fit k (by omega))
      have he := nest_enc k (by omega)
      have HD := Lib.hid (nest_dec k (by omega))
      obtain ⟨s, hs⟩ : ∃ s, s = (ByteArray.mk (nestV k).lay.toArray) := ⟨_, rfl⟩
      rw [← hs] at he ⊢
      have HS := Lib.hid hs
      by_cases h32 : 32 < m
      · have h32' : (32 : Int) < (m : Int) := by omega
        rw [if_neg (by omega)] at he
        rw [he] at henc
        have HD2 : Hid (decOf (nestV k).lay = .inl 3) := Lib.hid (by rw [HD.out, if_neg (by omega)])
        have hdec := decode_any s (nestV k).lay HS.out
        clear hkm he hs hat hbox6
        go_wp2_with fail
        refine henc.mono ?_
        rintro e w4 ⟨rfl, hb4⟩
        have hb4' := hbr.trans (hb4.mono hzr)
        go_wp2_with fail
        refine (hdec w4).mono ?_
        rintro e w5 ⟨hb5, ⟨er, h1, rfl⟩ | ⟨v, lv, fv, h1, _⟩⟩
        · rw [HD2.out] at h1
          injection h1 with h1
          subst h1
          have hb5' := hb4'.trans (hb5.mono hb4'.size)
          clear henc hdec hb4 hb5 hb4'
          go_wp2
          go_ret
          exact ⟨rfl, hb5'.alloc hb5'.size _⟩
        · rw [HD2.out] at h1; cases h1
      · have h32' : ¬ (32 : Int) < (m : Int) := by omega
        rw [if_pos (by omega)] at he
        rw [he] at henc
        have HD2 : Hid (decOf (nestV k).lay = .inr (nestV k)) := Lib.hid (by rw [HD.out, if_pos (by omega)])
        have hdec := decode_any s (nestV k).lay HS.out
        have HB6 := Lib.hid hbox6
        have HAT := Lib.hid hat
        clear hkm he hs hat hbox6
        go_wp2_with fail
        refine henc.mono ?_
        rintro e w4 ⟨rfl, hb4⟩
        have hb4' := hbr.trans (hb4.mono hzr)
        go_wp2_with fail
        refine (hdec w4).mono ?_
        rintro e w5 ⟨hb5, ⟨er, h1, rfl⟩ | ⟨v, lv, fv, h1, rfl, hat5⟩⟩
        · rw [HD2.out] at h1; cases h1
        rw [HD2.out] at h1
        injection h1 with h1
        subst h1
        obtain ⟨⟨bx, dx, rfl⟩, ⟨by', dy, rfl⟩, _, _⟩ := hat5.is.len
        have hb5r := hb4.trans (hb5.mono hb4.size)
        have hb5' := hbr.trans (hb5r.mono hzr)
        have hbn : Below w5.heap.size w5 (w5.alloc (.cells #[.int .i64 (nestV k).kind, .bool (nestV k).yes, .int .i64 (nestV k).num, .string (nestV k).text, .slice bx (nestV k).list.length dx, .slice by' (nestV k).fields.length dy] 26)) := (Below.refl _ w5).alloc (Nat.le_refl _) _
        have hsm := sameEq_any (nestV k) _ _ _ _ _ (V.Is.below hat5.is hbn) (V.Is.below HAT.out.is (hb5r.trans (hbn.mono hb5r.size)))
        have hbox5 : Box (w5.alloc (.cells #[.int .i64 (nestV k).kind, .bool (nestV k).yes, .int .i64 (nestV k).num, .string (nestV k).text, .slice bx (nestV k).list.length dx, .slice by' (nestV k).fields.length dy] 26)) w2.heap.size 26 #[.int .i64 (nestV k).kind, .bool (nestV k).yes, .int .i64 (nestV k).num, .string (nestV k).text, .slice ax (nestV k).list.length cx, .slice ay (nestV k).fields.length cy] :=
          Box.alloc ((hb5r.block _ hlt0).trans HB6.out) _
        obtain ⟨⟨y0, y1, y2, y3, y4, y5⟩, _⟩ := hbox5.six
        have hb6 := hb5'.trans (hbn.mono hb5'.size)
        clear henc hdec hb4 hb5 hb4' hb5r hb5' hbn hbox5 hat5 x0 x1 x2 x3 x4 x5
        go_wp2_with fail
        refine hsm.mono ?_
        rintro e w7 ⟨rfl, hb7⟩
        have hb7' := hb6.trans (hb7.mono hb6.size)
        clear hsm hb7 hb6
        go_wp2
        go_ret
        exact ⟨rfl, hb7'⟩

end Go.Proofs.Ytmpdmiloolbpbaa.valDeep
