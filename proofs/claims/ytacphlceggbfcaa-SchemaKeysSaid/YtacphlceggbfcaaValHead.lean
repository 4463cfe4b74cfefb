/-
  val's small makers, and mailbaglaw02.head.
-/
import Derived.Test.YtacphlceggbfcaaValCmp2
import Derived.Test.YtacphlceggbfcaaValEnc
import Derived.Test.YtacphlceggbfcaaValDecode
import Derived.Deep.RegionHeld3
namespace Go.Proofs.Ytacphlceggbfcaa
open Go.RowKit

theorem ofInt_any (n : Int) (w : World) :
    Calls Try.prog 16 #[.int .i64 n] w fun e w' => e = .returned (.agg #[.int .i64 2, .bool false, .int .i64 n, .string ⟨#[]⟩, .slice none 0 0, .slice none 0 0]) ∧ Below w.heap.size w w' := by
  go_enter Try.func16, Try.ntmps16
  go_wp2
  exact bodyPost_ret (v := .agg #[.int .i64 2, .bool false, .int .i64 n, .string ⟨#[]⟩, .slice none 0 0, .slice none 0 0]) (by simp [results, Try.results16, go_sem]) rfl ⟨rfl, ((Below.refl _ _).alloc (Nat.le_refl _) _)⟩

theorem none_at (w : World) (S : Nat → Prop) (v : V) (hl : v.list = []) (hf : v.fields = []) : v.At w S (.slice none 0 0) (.slice none 0 0) := by
  rw [V.at_iff, hl, hf]
  exact ⟨⟨none, 0, rfl, Nat.le_refl _, by unfold maxLen; omega, .inl rfl⟩, ⟨none, 0, rfl, Nat.le_refl _, by unfold maxLen; omega, .inl rfl⟩⟩

theorem ofInt_is (n : Int) (w : World) : (V.ofInt n).Is w (.slice none 0 0) (.slice none 0 0) := none_at w All _ rfl rfl

theorem lay_one : (V.ofInt 1).lay = [2, 0, 1, 2] := by kernel_rfl
theorem fit_one : (V.ofInt 1).fit := fit_of_lay 32 _ (right_ofInt 1 (by omega)) ⟨by unfold Is64; omega, trivial, trivial⟩ (by rw [lay_one]; decide)

theorem encOf_one : encOf (V.ofInt 1) = .tuple #[.string ⟨#[2, 0, 1, 2]⟩, .int .i64 0] := by
  unfold encOf
  have e : (V.ofInt 1).lay = [2, 0, 1, 2] := by kernel_rfl
  rw [right_ofInt 1 (by omega), if_pos rfl, e]
  rfl

theorem decOf_one : decOf [2, 0, 1, 2] = .inr (V.ofInt 1) := by
  have e : (V.ofInt 1).lay = [2, 0, 1, 2] := by kernel_rfl
  have h := decV_laid 32 (V.ofInt 1) [] (right_ofInt 1 (by omega)) ⟨by unfold Is64; omega, trivial, trivial⟩ (by rw [e]; decide)
  rw [e, List.append_nil] at h
  unfold decOf
  rw [if_neg (by decide), h]

theorem cmp_one : (V.ofInt 1).cmp (V.ofInt 1) = 0 := by
  rw [cmp_int _ _ rfl rfl]; rfl

theorem held6 {W w' : World} {b : Nat} {c0 c1 c2 c3 c4 c5 : Value} (hb : Below W.heap.size W w') (hlt : b < W.heap.size)
    (h : W.cell? ⟨b, 0, none⟩ = some c0 ∧ W.cell? ⟨b, 1, none⟩ = some c1 ∧ W.cell? ⟨b, 2, none⟩ = some c2 ∧ W.cell? ⟨b, 3, none⟩ = some c3 ∧ W.cell? ⟨b, 4, none⟩ = some c4 ∧ W.cell? ⟨b, 5, none⟩ = some c5) :
    w'.cell? ⟨b, 0, none⟩ = some c0 ∧ w'.cell? ⟨b, 1, none⟩ = some c1 ∧ w'.cell? ⟨b, 2, none⟩ = some c2 ∧ w'.cell? ⟨b, 3, none⟩ = some c3 ∧ w'.cell? ⟨b, 4, none⟩ = some c4 ∧ w'.cell? ⟨b, 5, none⟩ = some c5 := by
  obtain ⟨h0, h1, h2, h3, h4, h5⟩ := h
  exact ⟨(hb.cell hlt).trans h0, (hb.cell hlt).trans h1, (hb.cell hlt).trans h2, (hb.cell hlt).trans h3, (hb.cell hlt).trans h4, (hb.cell hlt).trans h5⟩

set_option maxHeartbeats 1000000 in
theorem head_any (w : World) : Calls Try.prog 9 #[] w fun e w' => e = .returned (.bool true) ∧ Below w.heap.size w w' := by
  go_enter Try.func9, Try.ntmps9
  go_wp2_with fail
  refine (ofInt_any 1 w).mono ?_
  rintro e w1 ⟨rfl, hb1⟩
  have hz1 := hb1.size
  have he := enc_any (V.ofInt 1) _ _ w1 (ofInt_is 1 w1) (fun _ => fit_one)
  rw [encOf_one] at he
  have he' : Calls Try.prog 18 #[.agg #[.int .i64 2, .bool false, .int .i64 1, .string ⟨#[]⟩, .slice none 0 0, .slice none 0 0]] w1 fun e w' => e = .returned (.tuple #[.string ⟨#[2, 0, 1, 2]⟩, .int .i64 0]) ∧ Below w1.heap.size w1 w' := he
  clear he
  go_wp2_with fail
  refine he'.mono ?_
  rintro e w2 ⟨rfl, hb2⟩
  have hb2w := hb1.trans (hb2.mono hz1)
  have hz2 := hb2w.size
  clear he' hb1 hb2 hz1
  have hd := decode_any ⟨#[2, 0, 1, 2]⟩ [2, 0, 1, 2] rfl w2
  go_wp2_with fail
  refine hd.mono ?_
  rintro e w3 ⟨hb3, ⟨er, h1, _⟩ | ⟨v, lv, fv, h1, rfl, hat⟩⟩
  · rw [decOf_one] at h1; cases h1
  rw [decOf_one] at h1
  injection h1 with h1
  subst h1
  obtain ⟨⟨ax, cx, rfl⟩, ⟨ay, cy, rfl⟩, _, _⟩ := hat.is.len
  have hb3w := hb2w.trans (hb3.mono hz2)
  have his := hat.is
  clear hd hb2w hb3 hat
  simp only [V.ofInt, V.kind, V.yes, V.num, V.text, V.list, V.fields, List.length_nil] at his ⊢
  have HK : Hid (∀ w4, Below ((w3.alloc (.cells #[.int .i64 2, .bool false, .int .i64 1, .string ⟨#[]⟩, .slice ax 0 cx, .slice ay 0 cy] 26)).drew).heap.size (w3.alloc (.cells #[.int .i64 2, .bool false, .int .i64 1, .string ⟨#[]⟩, .slice ax 0 cx, .slice ay 0 cy] 26)).drew w4 →
      (w4.cell? ⟨w3.heap.size, 0, none⟩ = some (.int .i64 2) ∧ w4.cell? ⟨w3.heap.size, 1, none⟩ = some (.bool false) ∧ w4.cell? ⟨w3.heap.size, 2, none⟩ = some (.int .i64 1) ∧ w4.cell? ⟨w3.heap.size, 3, none⟩ = some (.string ⟨#[]⟩) ∧ w4.cell? ⟨w3.heap.size, 4, none⟩ = some (.slice ax 0 cx) ∧ w4.cell? ⟨w3.heap.size, 5, none⟩ = some (.slice ay 0 cy)) ∧ Below w3.heap.size w3 w4 ∧ w3.heap.size < w4.heap.size) := Lib.hid (fun w4 hb => by
    have hz : (w3.alloc (.cells #[.int .i64 2, .bool false, .int .i64 1, .string ⟨#[]⟩, .slice ax 0 cx, .slice ay 0 cy] 26)).drew.heap.size = w3.heap.size + 1 := by show (w3.alloc (.cells #[.int .i64 2, .bool false, .int .i64 1, .string ⟨#[]⟩, .slice ax 0 cx, .slice ay 0 cy] 26)).heap.size = _; simp
    have hc := fun i => World.cell?_drew (w3.alloc (.cells #[.int .i64 2, .bool false, .int .i64 1, .string ⟨#[]⟩, .slice ax 0 cx, .slice ay 0 cy] 26)) ⟨w3.heap.size, i, none⟩
    exact ⟨held6 (b := w3.heap.size) hb (by rw [hz]; omega) ⟨by rw [hc]; simp, by rw [hc]; simp, by rw [hc]; simp, by rw [hc]; simp, by rw [hc]; simp, by rw [hc]; simp⟩, ((Below.refl _ w3).alloc (Nat.le_refl _) (.cells #[.int .i64 2, .bool false, .int .i64 1, .string ⟨#[]⟩, .slice ax 0 cx, .slice ay 0 cy] 26)).drew.trans (hb.mono (by rw [hz]; omega)), by have := hb.size; omega⟩)
  go_wp2_with fail
  go_region_held3 (fun w' => w'.cell? ⟨w3.heap.size, 0, none⟩ = some (.int .i64 2) ∧ w'.cell? ⟨w3.heap.size, 1, none⟩ = some (.bool false) ∧ w'.cell? ⟨w3.heap.size, 2, none⟩ = some (.int .i64 1) ∧ w'.cell? ⟨w3.heap.size, 3, none⟩ = some (.string ⟨#[]⟩) ∧ w'.cell? ⟨w3.heap.size, 4, none⟩ = some (.slice ax 0 cx) ∧ w'.cell? ⟨w3.heap.size, 5, none⟩ = some (.slice ay 0 cy)) (first | go_keep | exact hS4 | exact hS5)
    (first
      | (go_at_call 16; refine (ofInt_any 1 _).mono ?_; rintro e w4 ⟨rfl, hb4⟩; have hS4 := (HK.out _ hb4).1; have hB4 := (HK.out _ hb4).2.1; have hL4 := (HK.out _ hb4).2.2)
      | (go_at_call 15; refine (same_any (V.ofInt 1) (V.ofInt 1) _ _ _ _ _ (his.below hB4) (ofInt_is 1 _)).mono ?_; rintro e w5 ⟨rfl, hb5⟩; have hS5 := held6 hb5 hL4 hS4))
  have hb5w := hb3w.trans ((hB4.trans (hb5.mono (by have := hB4.size; exact this))).mono hb3w.size)
  clear hb3w hB4 hb5 hb4
  go_wp2
  go_ret
  exact ⟨by rw [cmp_one]; rfl, hb5w⟩

end Go.Proofs.Ytacphlceggbfcaa
