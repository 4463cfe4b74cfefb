/-
  ValLists' list: the numbers of a slice, as a list of values.
-/
import Derived.Test.YtmpdmiloolbpbaaVOfList
import Derived.Test.YtmpdmiloolbpbaaIsRow
import Derived.Test.YtmpdmiloolbpbaaRowB
import Derived.Outline
namespace Go.Proofs.Ytmpdmiloolbpbaa
open Go.RowKit

def intsV (zs : List Int) : List V := zs.map V.ofInt
theorem intsV_length (zs : List Int) : (intsV zs).length = zs.length := by simp [intsV]

theorem row_len {k : IntKind} {w : World} {a : Option Addr} {len cap : Nat} {zs : List Int} (h : IsRow k w a len cap zs) : (zs.take len).length = len := by
  rcases h with ⟨_, h, _, h2⟩ | ⟨_, _, h1, _, h2, _⟩
  · simp [h]
  · simp; omega

set_option maxHeartbeats 2000000 in
set_option maxRecDepth 100000 in
theorem listOf_any (a : Option Addr) (len cap : Nat) (zs : List Int) (w : World) (hrow : IsRow .i64 w a len cap zs) (h30 : len ≤ 30) :
    Calls Try.prog 30 #[.slice a len cap] w (OfListP (intsV (zs.take len)) w) := by
  have hlz := row_len hrow
  go_enter Try.func30, Try.ntmps30
  go_wp2_with fail
  have hst : VRow ((w.alloc (.cells #[.int .i64 0, .bool false, .int .i64 0, .string ⟨#[]⟩, .slice none 0 0, .slice none 0 0] 26)).alloc (.cells #[] 26)) (w.heap.size + 1) (.slice (some ⟨w.heap.size + 1, 0, none⟩) 0 0) [] := by
    have h := World.ownsRow_lit (base := w.heap.size + 1) (e := 26) (size := 6) (w.alloc (.cells #[.int .i64 0, .bool false, .int .i64 0, .string ⟨#[]⟩, .slice none 0 0, .slice none 0 0] 26)) #[] 0 (by simp) (by unfold maxLen; omega) rfl
    rw [show (w.alloc (.cells #[.int .i64 0, .bool false, .int .i64 0, .string ⟨#[]⟩, .slice none 0 0, .slice none 0 0] 26)).heap.size = w.heap.size + 1 by simp] at h
    exact ⟨[], h, fun i hi => by simp at hi⟩
  go_loopw [3, 9] (fun vv i wr => ∃ j : Nat, j ≤ len ∧ i = .int .i64 j ∧ Below w.heap.size w wr ∧ Box wr w.heap.size 26 #[.int .i64 0, .bool false, .int .i64 0, .string ⟨#[]⟩, .slice none 0 0, .slice none 0 0] ∧ VRow wr (w.heap.size + 1) vv (intsV (zs.take j))) (fun _ i _ => len - (intOf i).toNat)
  case atStart => exact ⟨0, Nat.zero_le _, rfl, ((Below.refl _ w).alloc (Nat.le_refl _) _).alloc (by simp) _, (Box.new w _ _).alloc _, hst⟩
  case round =>
    clear hst
    obtain ⟨j, hj, rfl, hbr, hBox, hvr⟩ := hrel
    have hzr := hbr.size
    have hlt0 := hBox.lt
    obtain ⟨av, cv, rfl, hc1, hc2⟩ := hvr.form
    have hlj : (intsV (zs.take j)).length = j := by rw [intsV_length]; simp; have := hlz; simp at this; omega
    by_cases hjl : j < len
    · have hjl' : (j : Int) < (len : Int) := by omega
      rcases rowB.isRow_below hrow hbr with ⟨_, h0, _⟩ | ⟨x, rfl, _, _, hzl, hc, _⟩
      · omega
      have q0 := hc j (by omega)
      obtain ⟨xb, xo, xs⟩ := x
      have hsn : Hid (intsV (zs.take (j + 1)) = intsV (zs.take j) ++ [V.ofInt (zs.getD j 0)]) := Lib.hid (by
        rw [List.take_succ_eq_append_getElem (by omega), intsV, List.map_append]
        simp [intsV, List.getD, List.getElem?_eq_getElem (show j < zs.length by omega)])
      generalize zs.getD j 0 = z at q0 hsn
      clear hc
      go_wp2_with fail
      refine (ofInt_any z wr).mono ?_
      rintro e w2 ⟨rfl, hb2⟩
      have hb2w := hbr.trans (hb2.mono hzr)
      have hrow2 : VRow w2 (w.heap.size + 1) (.slice av (intsV (zs.take j)).length cv) (intsV (zs.take j)) := hvr.keep (fun b _ hlt => hb2.block b hlt) hb2.size
      have hBox2 : Box w2 w.heap.size 26 #[.int .i64 0, .bool false, .int .i64 0, .string ⟨#[]⟩, .slice none 0 0, .slice none 0 0] := (hb2.block _ hlt0).trans hBox
      have HB := Lib.hid (show ∀ q, (Value.slice av (intsV (zs.take j)).length cv).ownBlock = some q → w.heap.size + 1 ≤ q from fun q e => by
        obtain ⟨cs, ho4, _⟩ := hrow2
        exact (World.ownsRow.lt ho4 _ e).1)
      have HR := Lib.hid hrow2
      have HL := Lib.hid hlj
      have hz2 : w.heap.size + 1 ≤ w2.heap.size := by have := hBox2.lt; omega
      have HX := Lib.hid (And.intro hb2w hBox2)
      clear hvr hBox hb2 hrow2 hBox2 hb2w
      generalize hn : (intsV (zs.take j)).length = nn at *
      have hnn : nn ≤ 1000 := by omega
      clear hlj hc1 hc2
      go_wp2_with (at_builtin; refine Mark.out ?_)
      refine Mark.mk ?_
      refine wpList_app_v _ w2.heap.size rfl rfl (.tmp 13) (.tmp 16) rfl (w.heap.size + 1) (.slice av nn cv) (intsV (zs.take j)) rfl HR.out (V.ofInt z) (.slice none 0 0) (.slice none 0 0) ⟨_, _, rfl⟩ ⟨_, _, rfl⟩ (none_at _ _ _ rfl rfl) _ (by rfl) 1 rfl (by omega) (by omega) ?_
      intro vv5 w5 hrow5 hup5
      have hb5 : Below w.heap.size w w5 := HX.out.1.grown hup5.1 (by have := HX.out.1.size; omega) (fun k hk => by have := HB.out k hk; omega)
      have hBox5 := HX.out.2.up hup5 (fun e => by have := HB.out _ e; omega)
      rw [← hsn.out] at hrow5
      have HK := Lib.hid (And.intro hb5 (And.intro hBox5 hrow5))
      clear hb5 hBox5 hrow5 hup5
      go_wp2
      go_roundw
      case rel => exact ⟨j + 1, by omega, by go_num, HK.out.1, HK.out.2.1, HK.out.2.2⟩
      case measure => simp [intOf]; omega
    · obtain rfl : j = len := by omega
      have hof := ofList_any (intsV (zs.take j)) (fun x hx => by
        obtain ⟨z, _, rfl⟩ := List.mem_map.1 hx
        exact ⟨⟨by decide, by decide⟩, trivial, trivial⟩) (by omega) _ wr (LAt.move (fun b _ _ => ⟨trivial, rfl⟩) (Nat.le_refl _) hvr.at_)
      have HL := Lib.hid hlj
      have HX := Lib.hid (And.intro hbr hBox)
      clear hvr hbr hBox hlj hc1 hc2
      go_wp2_with fail
      refine hof.mono ?_
      rintro e w3 ⟨lv', rfl, hat3, hb3⟩
      obtain ⟨⟨qx, qc, hq⟩, _, _, _⟩ := hat3.is.len
      have hq : lv' = .slice qx (intsV (zs.take j)).length qc := hq
      subst hq
      have hBox3 : Box w3 w.heap.size 26 #[.int .i64 0, .bool false, .int .i64 0, .string ⟨#[]⟩, .slice none 0 0, .slice none 0 0] := (hb3.block _ hlt0).trans HX.out.2
      have hb3w := HX.out.1.trans (hb3.mono hzr)
      have hF := Box.sets [.int .i64 4, .bool false, .int .i64 0, .string ⟨#[]⟩, .slice qx (intsV (zs.take j)).length qc, .slice none 0 0] 0 hBox3
      obtain ⟨⟨k0, k1, k2, k3, k4, k5⟩, _⟩ := Box.six (c0 := .int .i64 4) (c1 := .bool false) (c2 := .int .i64 0) (c3 := .string ⟨#[]⟩) (c4 := .slice qx (intsV (zs.take j)).length qc) (c5 := .slice none 0 0) hF
      simp only [sets, Nat.zero_add, Nat.reduceAdd] at k0 k1 k2 k3 k4 k5
      have hb5 := Below.sets [.int .i64 4, .bool false, .int .i64 0, .string ⟨#[]⟩, .slice qx (intsV (zs.take j)).length qc, .slice none 0 0] 0 hb3w (g := w.heap.size) (Nat.le_refl _)
      have hat5 : (V.ofList (intsV (zs.take j))).At (sets w3 w.heap.size 0 [.int .i64 4, .bool false, .int .i64 0, .string ⟨#[]⟩, .slice qx (intsV (zs.take j)).length qc, .slice none 0 0]) (fun q => w.heap.size ≤ q) (.slice qx (intsV (zs.take j)).length qc) (.slice none 0 0) :=
        V.At.move (fun b hb _ => ⟨by omega, sets_far _ _ _ _ (by omega)⟩) (by rw [sets_size]; exact Nat.le_refl _) _ (Nat.le_refl _) hat3
      obtain ⟨⟨z0, z1, z2, z3, z4, z5⟩, s0, s1, s2, s3, s4, s5⟩ := hBox3.six
      have HE := Lib.hid (And.intro hb5 hat5)
      clear hF hBox3 hb3 hat3 hof hb5 hat5 hb3w
      go_wp2
      refine bodyPost_ret (v := .agg #[.int .i64 4, .bool false, .int .i64 0, .string ⟨#[]⟩, .slice qx (intsV (zs.take j)).length qc, .slice none 0 0]) (by simp [results, Try.results30, go_sem, k0, k1, k2, k3, k4, k5]) rfl ⟨_, rfl, HE.out.2, HE.out.1⟩

end Go.Proofs.Ytmpdmiloolbpbaa
