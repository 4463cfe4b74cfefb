/-
  ValLong: for every number and either way the law's function returns true, and writes nothing that was there.
-/
import Derived.Test.YtmpdmiloolbpbaaVLongM
import Derived.Outline
namespace Go.Proofs.Ytmpdmiloolbpbaa.valLong
open Go.RowKit

theorem six_of {w : World} {g : Nat} {t : TypeId} {c0 c1 c2 c3 c4 c5 : Value} (h : Box w g t #[c0, c1, c2, c3, c4, c5]) : w.cell? ⟨g, 0, none⟩ = some c0 ∧ w.cell? ⟨g, 1, none⟩ = some c1 ∧ w.cell? ⟨g, 2, none⟩ = some c2 ∧ w.cell? ⟨g, 3, none⟩ = some c3 ∧ w.cell? ⟨g, 4, none⟩ = some c4 ∧ w.cell? ⟨g, 5, none⟩ = some c5 := h.six.1

set_option maxHeartbeats 4000000 in
set_option maxRecDepth 100000 in
theorem walk (n : Int) (_w0 : (Lit.int .i64 n).wf = true) (inn : Bool) (w : World) :
    Calls Try.prog 10 #[.int .i64 n, .bool inn] w fun e w' => e = .returned (.bool true) ∧ RowKit.Below w.heap.size w w' := by
  obtain ⟨m, hm⟩ : ∃ m : Nat, n % 256 = m := ⟨(n % 256).toNat, by omega⟩
  have hmask := and_mask8 n
  rw [hm] at hmask
  have hm2 : m < 256 := by omega
  obtain ⟨N, hN⟩ : ∃ N : Nat, N = 4000 + m := ⟨_, rfl⟩
  have hNN : (4000 : Int) + (m : Int) = (N : Int) := by omega
  have hN1 : 4000 ≤ N := by omega
  have hN2 : N ≤ 4255 := by omega
  obtain ⟨arr, s, hs, hmk, hcv⟩ := made_text N (by omega)
  clear hm hN
  have HS := Lib.hid hs
  clear hs
  go_enter Try.func10, Try.ntmps10
  go_wp2_with fail
  refine (head_any _).mono ?_
  rintro e w1 ⟨rfl, hb1⟩
  have hz1 := hb1.size
  go_wp2_with fail
  refine (ofText_any s _).mono ?_
  rintro e w4 ⟨rfl, hb4⟩
  have hb4w := (hb1.alloc hz1 (.cells arr 5)).trans (hb4.mono (by simp; omega))
  have hw4 : w.heap.size ≤ w4.heap.size := hb4w.size
  clear hmk hcv hmask hb1 hb4
  have hbn := hb4w.alloc hb4w.size (.cells #[.int .i64 3, .bool false, .int .i64 0, .string s, .slice none 0 0, .slice none 0 0] 26)
  have hBox : Box (w4.alloc (.cells #[.int .i64 3, .bool false, .int .i64 0, .string s, .slice none 0 0, .slice none 0 0] 26)) w4.heap.size 26 #[.int .i64 3, .bool false, .int .i64 0, .string s, .slice none 0 0, .slice none 0 0] := Box.new w4 _ _
  cases inn
  · have HV : Hid (∀ w', RowKit.Below (w4.alloc (.cells #[.int .i64 3, .bool false, .int .i64 0, .string s, .slice none 0 0, .slice none 0 0] 26)).heap.size (w4.alloc (.cells #[.int .i64 3, .bool false, .int .i64 0, .string s, .slice none 0 0, .slice none 0 0] 26)) w' → (V.ofText s).Is w' (.slice none 0 0) (.slice none 0 0)) := Lib.hid (fun w' _ => none_at w' All (V.ofText s) rfl rfl)
    have HX6 := Lib.hid (fun w' (h : RowKit.Below (w4.alloc (.cells #[.int .i64 3, .bool false, .int .i64 0, .string s, .slice none 0 0, .slice none 0 0] 26)).heap.size (w4.alloc (.cells #[.int .i64 3, .bool false, .int .i64 0, .string s, .slice none 0 0, .slice none 0 0] 26)) w') => six_of ((h.block _ hBox.lt).trans hBox))
    have hlay := long_lay s (by rw [HS.out]; exact hN1) (by rw [HS.out]; exact hN2)
    rw [HS.out] at hlay
    have hbW := hbn
    have x0 := trivial
    have x1 := trivial
    have x2 := trivial
    have x3 := trivial
    have x4 := trivial
    have x5 := trivial
    clear hbn hb4w hBox
    have henc := enc_any (V.ofText s) _ _ _ (HV.out _ (RowKit.Below.refl _ _)) (fun h => fit_of_lay 32 _ h (long_n64 s) (by rw [hlay]; omega))
    rw [enc_long _ _ (long_right s) hlay] at henc
    by_cases hfit : N + 4 ≤ 4096
    · rw [if_pos hfit] at henc
      have hsz : (ByteArray.mk ((V.ofText s)).lay.toArray).size = N + 4 := hlay
      obtain ⟨t, ht⟩ : ∃ t, t = ByteArray.mk ((V.ofText s)).lay.toArray := ⟨_, rfl⟩
      rw [← ht] at henc hsz
      have hf' : ¬ (4096 : Int) < ((4 : Int) + (N : Int)) := by omega
      have hz' : ((t.size : Int) == ((4 : Int) + (N : Int))) = true := by rw [beq_iff_eq]; omega
      have HT := Lib.hid ht
      have hdec := dec_long (V.ofText s) (long_right s) (long_n64 s) (by rw [hlay]; exact hfit)
      have HDEC := Lib.hid hdec
      clear ht hsz hdec hfit hlay
      go_wp2_with fail
      refine henc.mono ?_
      rintro e w5 ⟨rfl, hb5⟩
      have hb5w := hbW.trans (hb5.mono hbW.size)
      go_wp2_with fail
      refine (decode_any t ((V.ofText s)).lay HT.out w5).mono ?_
      rintro e w6 ⟨hb6, ⟨er, h1, _⟩ | ⟨u, lu, fu, h1, rfl, hat6⟩⟩
      · rw [HDEC.out] at h1; cases h1
      rw [HDEC.out] at h1
      injection h1 with h1
      subst h1
      obtain ⟨⟨ax, cx, rfl⟩, ⟨ay, cy, rfl⟩, _, _⟩ := hat6.is.len
      have hb6r := hb5.trans (hb6.mono hb5.size)
      have hbn : RowKit.Below w6.heap.size w6 (w6.alloc (.cells #[.int .i64 ((V.ofText s)).kind, .bool ((V.ofText s)).yes, .int .i64 ((V.ofText s)).num, .string ((V.ofText s)).text, .slice ax ((V.ofText s)).list.length cx, .slice ay ((V.ofText s)).fields.length cy] 26)) := (RowKit.Below.refl _ w6).alloc (Nat.le_refl _) _
      have hb7r := hb6r.trans (hbn.mono hb6r.size)
      have hb7w := hbW.trans (hb7r.mono hbW.size)
      have hsame := same_any (V.ofText s) (V.ofText s) _ _ _ _ _ (V.Is.below hat6.is hbn) (HV.out _ hb7r)
      rw [long_cmp s] at hsame
      obtain ⟨y0, y1, y2, y3, y4, y5⟩ := HX6.out _ hb7r
      clear henc hb5 hb6 hat6 hb6r hbn hb7r hb5w hbW x0 x1 x2 x3 x4 x5
      go_wp2_with fail
      refine hsame.mono ?_
      rintro e w8 ⟨rfl, hb8⟩
      have hb8w := hb7w.trans (hb8.mono hb7w.size)
      clear hsame hb8 hb7w
      go_wp2
      go_ret
      exact ⟨rfl, hb8w⟩
    · rw [if_neg hfit] at henc
      have hf' : (4096 : Int) < ((4 : Int) + (N : Int)) := by omega
      clear hfit hlay
      go_wp2_with fail
      refine henc.mono ?_
      rintro e w5 ⟨rfl, hb5⟩
      have hb5w := hbW.trans (hb5.mono hbW.size)
      clear henc hb5 hbW
      go_wp2
      go_ret
      exact ⟨rfl, hb5w⟩
  · have hz1' : (w4.alloc (.cells #[.int .i64 3, .bool false, .int .i64 0, .string s, .slice none 0 0, .slice none 0 0] 26)).heap.size = w4.heap.size + 1 := by simp
    have hB2 : Box ((w4.alloc (.cells #[.int .i64 3, .bool false, .int .i64 0, .string s, .slice none 0 0, .slice none 0 0] 26)).alloc (.cells #[.string ⟨#[97]⟩, .int .i64 3, .bool false, .int .i64 0, .string s, .slice none 0 0, .slice none 0 0] 43)) (w4.heap.size + 1) 43 (FC.enc ⟨⟨#[97]⟩, V.ofText s, none, 0, none, 0⟩).toArray := by
      have := Box.new (w4.alloc (.cells #[.int .i64 3, .bool false, .int .i64 0, .string s, .slice none 0 0, .slice none 0 0] 26)) 43 (FC.enc ⟨⟨#[97]⟩, V.ofText s, none, 0, none, 0⟩).toArray
      rwa [hz1'] at this
    have hz2 : ((w4.alloc (.cells #[.int .i64 3, .bool false, .int .i64 0, .string s, .slice none 0 0, .slice none 0 0] 26)).alloc (.cells #[.string ⟨#[97]⟩, .int .i64 3, .bool false, .int .i64 0, .string s, .slice none 0 0, .slice none 0 0] 43)).heap.size = w4.heap.size + 2 := by simp
    have hof := ofMap_some (w4.heap.size + 1) 0 1 #[⟨⟨#[97]⟩, V.ofText s, none, 0, none, 0⟩] (by simp) (by simp) ((w4.alloc (.cells #[.int .i64 3, .bool false, .int .i64 0, .string s, .slice none 0 0, .slice none 0 0] 26)).alloc (.cells #[.string ⟨#[97]⟩, .int .i64 3, .bool false, .int .i64 0, .string s, .slice none 0 0, .slice none 0 0] 43)) (by rw [hz2]; omega)
      (fun i h => by
        obtain rfl : i = 0 := by simpa using h
        intro q u hq
        rw [show 0 + 0 * 7 + q = q by omega, hB2.cell]
        simpa using hq)
      (fun i h => by
        obtain rfl : i = 0 := by simpa using h
        exact none_at _ _ _ rfl rfl)
      (fun x hx => by
        obtain rfl : x = ⟨⟨#[97]⟩, V.ofText s, none, 0, none, 0⟩ := by simpa using hx
        exact ⟨⟨by decide, by decide⟩, trivial, trivial⟩)
    rw [kept_one, show ([(⟨⟨#[97]⟩, V.ofText s, none, 0, none, 0⟩ : FC)].map FC.fd) = [((⟨#[97]⟩ : ByteArray), V.ofText s)] from rfl, show (#[(⟨⟨#[97]⟩, V.ofText s, none, 0, none, 0⟩ : FC)]).size = 1 from rfl] at hof
    have hb2w : RowKit.Below w.heap.size w ((w4.alloc (.cells #[.int .i64 3, .bool false, .int .i64 0, .string s, .slice none 0 0, .slice none 0 0] 26)).alloc (.cells #[.string ⟨#[97]⟩, .int .i64 3, .bool false, .int .i64 0, .string s, .slice none 0 0, .slice none 0 0] 43)) := hbn.alloc hbn.size _
    have hBox2 : Box ((w4.alloc (.cells #[.int .i64 3, .bool false, .int .i64 0, .string s, .slice none 0 0, .slice none 0 0] 26)).alloc (.cells #[.string ⟨#[97]⟩, .int .i64 3, .bool false, .int .i64 0, .string s, .slice none 0 0, .slice none 0 0] 43)) w4.heap.size 26 #[.int .i64 3, .bool false, .int .i64 0, .string s, .slice none 0 0, .slice none 0 0] := hBox.alloc _
    have HB := Lib.hid (And.intro hb2w (And.intro hBox2 hz2))
    have hlay := longMap_lay s (by rw [HS.out]; exact hN1) (by rw [HS.out]; exact hN2)
    rw [HS.out] at hlay
    clear hz1' hB2 hz2 hb2w hBox2 hbn hb4w hBox
    go_wp2_with fail
    refine hof.mono ?_
    rintro e w5 ⟨fv, rfl, hat, hb5⟩
    obtain ⟨_, ⟨qy, qd, hq⟩, _, _⟩ := hat.is.len
    have hq : fv = .slice qy 1 qd := hq
    subst hq
    obtain ⟨hb2w, hBox2, hz2⟩ := HB.out
    rw [hz2] at hat hb5
    have hBox5 : Box w5 w4.heap.size 26 #[.int .i64 3, .bool false, .int .i64 0, .string s, .slice none 0 0, .slice none 0 0] := (hb5.block _ (by omega)).trans hBox2
    have hb5w : RowKit.Below w.heap.size w w5 := hb2w.trans (hb5.mono (by have := hb2w.size; omega))
    have hBox6 := Box.sets [.int .i64 5, .bool false, .int .i64 0, .string ⟨#[]⟩, .slice none 0 0, .slice qy 1 qd] 0 hBox5
    have hbW : RowKit.Below w.heap.size w (sets w5 w4.heap.size 0 [.int .i64 5, .bool false, .int .i64 0, .string ⟨#[]⟩, .slice none 0 0, .slice qy 1 qd]) := Go.Proofs.Ytmpdmiloolbpbaa.Below.sets _ _ hb5w hw4
    have hv6 : (longMap s).At (sets w5 w4.heap.size 0 [.int .i64 5, .bool false, .int .i64 0, .string ⟨#[]⟩, .slice none 0 0, .slice qy 1 qd]) (fun q => w4.heap.size + 2 ≤ q) (.slice none 0 0) (.slice qy 1 qd) :=
      V.At.move (fun b hb _ => ⟨hb, sets_far _ _ _ _ (by omega)⟩) (by rw [sets_size]; exact Nat.le_refl _) _ (Nat.le_refl _) hat
    have HV : Hid (∀ w', RowKit.Below (sets w5 w4.heap.size 0 [.int .i64 5, .bool false, .int .i64 0, .string ⟨#[]⟩, .slice none 0 0, .slice qy 1 qd]).heap.size (sets w5 w4.heap.size 0 [.int .i64 5, .bool false, .int .i64 0, .string ⟨#[]⟩, .slice none 0 0, .slice qy 1 qd]) w' → (longMap s).Is w' (.slice none 0 0) (.slice qy 1 qd)) := Lib.hid (fun w' h => V.Is.below hv6.is h)
    have HX6 := Lib.hid (fun w' (h : RowKit.Below (sets w5 w4.heap.size 0 [.int .i64 5, .bool false, .int .i64 0, .string ⟨#[]⟩, .slice none 0 0, .slice qy 1 qd]).heap.size (sets w5 w4.heap.size 0 [.int .i64 5, .bool false, .int .i64 0, .string ⟨#[]⟩, .slice none 0 0, .slice qy 1 qd]) w') => six_of (c0 := .int .i64 5) (c1 := .bool false) (c2 := .int .i64 0) (c3 := .string ⟨#[]⟩) (c4 := .slice none 0 0) (c5 := .slice qy 1 qd) (show Box w' w4.heap.size 26 _ from (h.block _ hBox6.lt).trans hBox6))
    have HBW := Lib.hid hbW
    obtain ⟨⟨z0, z1, z2, z3, z4, z5⟩, s0, s1, s2, s3, s4, s5⟩ := hBox5.six
    have hsix := six_of (c0 := .int .i64 5) (c1 := .bool false) (c2 := .int .i64 0) (c3 := .string ⟨#[]⟩) (c4 := .slice none 0 0) (c5 := .slice qy 1 qd) hBox6
    have HX0 := Lib.hid hsix
    clear hof hat hb5 hb2w hBox2 hz2 hBox5 hb5w hBox6 hbW hv6 hsix
    go_wp2_with fail
    change Calls _ _ _ (sets w5 w4.heap.size 0 [.int .i64 5, .bool false, .int .i64 0, .string ⟨#[]⟩, .slice none 0 0, .slice qy 1 qd]) _
    generalize (sets w5 w4.heap.size 0 [.int .i64 5, .bool false, .int .i64 0, .string ⟨#[]⟩, .slice none 0 0, .slice qy 1 qd]) = W3 at *
    have hbW := HBW.out
    obtain ⟨x0, x1, x2, x3, x4, x5⟩ := HX0.out
    clear z0 z1 z2 z3 z4 z5 s0 s1 s2 s3 s4 s5
    have henc := enc_any (longMap s) _ _ _ (HV.out _ (RowKit.Below.refl _ _)) (fun h => fit_of_lay 32 _ h (longMap_n64 s) (by rw [hlay]; omega))
    rw [enc_long _ _ (longMap_right s) hlay] at henc
    by_cases hfit : N + 10 ≤ 4096
    · rw [if_pos hfit] at henc
      have hsz : (ByteArray.mk ((longMap s)).lay.toArray).size = N + 10 := hlay
      obtain ⟨t, ht⟩ : ∃ t, t = ByteArray.mk ((longMap s)).lay.toArray := ⟨_, rfl⟩
      rw [← ht] at henc hsz
      have hf' : ¬ (4096 : Int) < ((4 : Int) + (N : Int) + 6) := by omega
      have hz' : ((t.size : Int) == ((4 : Int) + (N : Int) + 6)) = true := by rw [beq_iff_eq]; omega
      have HT := Lib.hid ht
      have hdec := dec_long (longMap s) (longMap_right s) (longMap_n64 s) (by rw [hlay]; exact hfit)
      have HDEC := Lib.hid hdec
      clear ht hsz hdec hfit hlay
      refine henc.mono ?_
      rintro e w5 ⟨rfl, hb5⟩
      have hb5w := hbW.trans (hb5.mono hbW.size)
      go_wp2_with fail
      refine (decode_any t ((longMap s)).lay HT.out w5).mono ?_
      rintro e w6 ⟨hb6, ⟨er, h1, _⟩ | ⟨u, lu, fu, h1, rfl, hat6⟩⟩
      · rw [HDEC.out] at h1; cases h1
      rw [HDEC.out] at h1
      injection h1 with h1
      subst h1
      obtain ⟨⟨ax, cx, rfl⟩, ⟨ay, cy, rfl⟩, _, _⟩ := hat6.is.len
      have hb6r := hb5.trans (hb6.mono hb5.size)
      have hbn : RowKit.Below w6.heap.size w6 (w6.alloc (.cells #[.int .i64 ((longMap s)).kind, .bool ((longMap s)).yes, .int .i64 ((longMap s)).num, .string ((longMap s)).text, .slice ax ((longMap s)).list.length cx, .slice ay ((longMap s)).fields.length cy] 26)) := (RowKit.Below.refl _ w6).alloc (Nat.le_refl _) _
      have hb7r := hb6r.trans (hbn.mono hb6r.size)
      have hb7w := hbW.trans (hb7r.mono hbW.size)
      have hsame := same_any (longMap s) (longMap s) _ _ _ _ _ (V.Is.below hat6.is hbn) (HV.out _ hb7r)
      rw [longMap_cmp s] at hsame
      obtain ⟨y0, y1, y2, y3, y4, y5⟩ := HX6.out _ hb7r
      clear henc hb5 hb6 hat6 hb6r hbn hb7r hb5w hbW x0 x1 x2 x3 x4 x5
      go_wp2_with fail
      refine hsame.mono ?_
      rintro e w8 ⟨rfl, hb8⟩
      have hb8w := hb7w.trans (hb8.mono hb7w.size)
      clear hsame hb8 hb7w
      go_wp2
      go_ret
      exact ⟨rfl, hb8w⟩
    · rw [if_neg hfit] at henc
      have hf' : (4096 : Int) < ((4 : Int) + (N : Int) + 6) := by omega
      clear hfit hlay
      refine henc.mono ?_
      rintro e w5 ⟨rfl, hb5⟩
      have hb5w := hbW.trans (hb5.mono hbW.size)
      clear henc hb5 hbW
      go_wp2
      go_ret
      exact ⟨rfl, hb5w⟩

end Go.Proofs.Ytmpdmiloolbpbaa.valLong
