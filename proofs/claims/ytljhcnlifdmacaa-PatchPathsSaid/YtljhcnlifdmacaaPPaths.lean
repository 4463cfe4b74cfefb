/-
  The walk of mailbaglaw08.PatchPaths.
-/
import Derived.Test.YtljhcnlifdmacaaPRes
import Derived.Test.YtljhcnlifdmacaaPPathM
import Derived.Test.YtljhcnlifdmacaaTRow
import Derived.Deep.CutRange
import Derived.Deep.RegionHeld3
import Derived.Deep.RegionWith
namespace Go.Proofs.Ytljhcnlifdmacaa.patchPaths
open Go.RowKit

theorem and_mask5 (n : Int) : bits .and .i64 n 31 = n % 32 := by
  have hc : (BitVec.ofInt 64 31).toNat = 2 ^ 5 - 1 := by decide
  have key : (BitVec.ofInt 64 n &&& BitVec.ofInt 64 31).toNat = (n % ((2 ^ 64 : Nat) : Int)).toNat % 2 ^ 5 := by
    rw [BitVec.toNat_and, BitVec.toNat_ofInt, hc, Nat.and_two_pow_sub_one_eq_mod]
  show IntKind.i64.wrap ((BitVec.ofInt 64 n &&& BitVec.ofInt 64 31).toNat : Nat) = n % 32
  rw [key, IntKind.wrap_i64]
  omega

/-- v's box, and the path -/
def ST (w : World) (u : V) (ua : Option Addr) (uc : Nat) (ub : Option Addr) (ud : Nat) (bv : Nat) (pa : Option Addr) (pc : Nat) (path : List ByteArray) (W : World) : Prop :=
  Below w.heap.size w W ∧ Box W bv 26 #[.int .i64 u.kind, .bool u.yes, .int .i64 u.num, .string u.text, .slice ua u.list.length uc, .slice ub u.fields.length ud] ∧ u.Is W (.slice ua u.list.length uc) (.slice ub u.fields.length ud) ∧ (path.length ≤ pc ∧ pc ≤ maxLen) ∧ ∃ pb poff, pa = some ⟨pb, poff, none⟩ ∧ StrAt W pb poff path

theorem ST.below {w : World} {u : V} {ua : Option Addr} {uc : Nat} {ub : Option Addr} {ud bv : Nat} {pa : Option Addr} {pc : Nat} {path : List ByteArray} {W W' : World} (h : ST w u ua uc ub ud bv pa pc path W) (hb : Below W.heap.size W W') : ST w u ua uc ub ud bv pa pc path W' := by
  obtain ⟨h1, h2, h3, h4, pb, poff, e, h5⟩ := h
  exact ⟨h1.trans (hb.mono h1.size), (hb.block _ h2.lt).trans h2, h3.below hb, h4, pb, poff, e, h5.below hb⟩

theorem ST.al {w : World} {u : V} {ua : Option Addr} {uc : Nat} {ub : Option Addr} {ud bv : Nat} {pa : Option Addr} {pc : Nat} {path : List ByteArray} {W : World} (h : ST w u ua uc ub ud bv pa pc path W) (o : Obj) : ST w u ua uc ub ud bv pa pc path (W.alloc o) := h.below ((Below.refl _ W).alloc (Nat.le_refl _) o)

theorem one_call {w : World} {u : V} {ua : Option Addr} {uc : Nat} {ub : Option Addr} {ud bv : Nat} {pa : Option Addr} {pc : Nat} {path : List ByteArray} {W : World} {L : Nat} (hL : L = path.length) {r : Except Int V} (hr : applyV u [⟨1, path, intV 1⟩] = r) (h : ST w u ua uc ub ud bv pa pc path W) (ho : u.okv 8) {g : Nat} (hg : Box W g 50 #[.int .i64 1, .slice pa L pc, .int .i64 2, .bool false, .int .i64 1, .string ⟨#[]⟩, .slice none 0 0, .slice none 0 0]) :
    Calls Try.prog 21 #[.agg #[.int .i64 u.kind, .bool u.yes, .int .i64 u.num, .string u.text, .slice ua u.list.length uc, .slice ub u.fields.length ud], .slice (some ⟨g, 0, none⟩) 1 1] W fun e w' =>
      ∃ ya yc yb yd, e = .returned (.tuple #[.agg #[.int .i64 ((resV r)).kind, .bool ((resV r)).yes, .int .i64 ((resV r)).num, .string ((resV r)).text, .slice ya ((resV r)).list.length yc, .slice yb ((resV r)).fields.length yd], .int .i64 (resC r)]) ∧ (resV r).At w' (fun q => W.heap.size ≤ q) (.slice ya (resV r).list.length yc) (.slice yb (resV r).fields.length yd) ∧ Below W.heap.size W w' := by
  subst hL
  obtain ⟨h1, h2, h3, h4, pb, poff, rfl, h5⟩ := h
  have hops : OpsAt W All (some ⟨g, 0, none⟩) [⟨1, path, intV 1⟩] := .inr ⟨g, 0, rfl, hg.lt, fun i hi => by
    obtain rfl : i = 0 := by simp at hi; omega
    refine ⟨some ⟨pb, poff, none⟩, pc, none, 0, none, 0, fun j u hj => ?_, h4, .inr ⟨pb, poff, rfl, h5⟩, intV_is 1 W All⟩
    rw [Nat.zero_mul, Nat.zero_add, hg.cell]
    have hj2 : ([.int .i64 1, .slice (some ⟨pb, poff, none⟩) path.length pc, .int .i64 2, .bool false, .int .i64 1, .string ⟨#[]⟩, .slice none 0 0, .slice none 0 0] : List Value)[j]? = some u := hj
    simpa using hj2⟩
  have hcall := apply_any u [⟨1, path, intV 1⟩] ua uc ub ud (some ⟨g, 0, none⟩) 1 8 W h3 hops (by simp) ho (by omega) (fun o hoo _ => by
    rw [show o = ⟨1, path, intV 1⟩ by simpa using hoo]; exact intV_okv (by unfold Is64; omega) _)
  rw [hr] at hcall
  exact hcall.mono fun e w' h => res_any h

theorem end_box {w w8 W : World} {y : V} {bx : Nat} {ya : Option Addr} {yc : Nat} {yb : Option Addr} {yd : Nat} (hz : Box w8 bx 26 #[.int .i64 0, .bool false, .int .i64 0, .string ⟨#[]⟩, .slice none 0 0, .slice none 0 0]) (hlt : bx < W.heap.size) (hb : Below W.heap.size W w8) (hw : w.heap.size ≤ bx) (hbW : Below w.heap.size w W) (hy : y.At w8 (fun q => W.heap.size ≤ q) (.slice ya y.list.length yc) (.slice yb y.fields.length yd)) :
    Box (sets w8 bx 0 [.int .i64 y.kind, .bool y.yes, .int .i64 y.num, .string y.text, .slice ya y.list.length yc, .slice yb y.fields.length yd]) bx 26 #[.int .i64 y.kind, .bool y.yes, .int .i64 y.num, .string y.text, .slice ya y.list.length yc, .slice yb y.fields.length yd] ∧ y.At (sets w8 bx 0 [.int .i64 y.kind, .bool y.yes, .int .i64 y.num, .string y.text, .slice ya y.list.length yc, .slice yb y.fields.length yd]) (fun q => q ≠ bx) (.slice ya y.list.length yc) (.slice yb y.fields.length yd) ∧ Below w.heap.size w (sets w8 bx 0 [.int .i64 y.kind, .bool y.yes, .int .i64 y.num, .string y.text, .slice ya y.list.length yc, .slice yb y.fields.length yd]) ∧ w.heap.size ≤ bx :=
  ⟨(put_box hz hlt hy).1, (put_box hz hlt hy).2, below_ends (hbW.trans (hb.mono hbW.size)) hw _, hw⟩

theorem box_new2 (w : World) (o : Obj) (t : TypeId) (cs : Array Value) : Box ((w.alloc o).alloc (.cells cs t)) (w.heap.size + 1) t cs := by
  have h := Box.new (w.alloc o) t cs
  rw [World.size_alloc] at h
  exact h

theorem end_new {w w8 W : World} {y : V} {ya : Option Addr} {yc : Nat} {yb : Option Addr} {yd : Nat} (hb : Below W.heap.size W w8) (hbW : Below w.heap.size w W) (hy : y.At w8 (fun q => W.heap.size ≤ q) (.slice ya y.list.length yc) (.slice yb y.fields.length yd)) :
    Box (w8.alloc (.cells #[.int .i64 y.kind, .bool y.yes, .int .i64 y.num, .string y.text, .slice ya y.list.length yc, .slice yb y.fields.length yd] 26)) w8.heap.size 26 #[.int .i64 y.kind, .bool y.yes, .int .i64 y.num, .string y.text, .slice ya y.list.length yc, .slice yb y.fields.length yd] ∧ y.At (w8.alloc (.cells #[.int .i64 y.kind, .bool y.yes, .int .i64 y.num, .string y.text, .slice ya y.list.length yc, .slice yb y.fields.length yd] 26)) (fun q => q ≠ w8.heap.size) (.slice ya y.list.length yc) (.slice yb y.fields.length yd) ∧ Below w.heap.size w (w8.alloc (.cells #[.int .i64 y.kind, .bool y.yes, .int .i64 y.num, .string y.text, .slice ya y.list.length yc, .slice yb y.fields.length yd] 26)) ∧ w.heap.size ≤ w8.heap.size :=
  ⟨(put_new hy).1, (put_new hy).2, (hbW.trans (hb.mono hbW.size)).alloc (hbW.trans (hb.mono hbW.size)).size _, (hbW.trans (hb.mono hbW.size)).size⟩

theorem ss_cap {B : Nat} {w : World} {a : Option Addr} {n c : Nat} {ps : List ByteArray} (h : tRow.Ss B w (.slice a n c) ps) : n ≤ c ∧ c ≤ maxLen := by
  rcases h.2 with ⟨hv, h0⟩ | ⟨g, cap, cur, hv, h1, h2, h3, h4, _⟩
  · injection hv with e1 e2 e3
    subst e2 e3
    exact ⟨Nat.le_refl _, by unfold maxLen; omega⟩
  · injection hv with e1 e2 e3
    subst e2 e3
    exact ⟨by first | exact h3 | exact h4 | omega, by first | exact h4 | exact h3 | omega⟩

theorem ss_st {w : World} {u : V} {ua : Option Addr} {uc : Nat} {ub : Option Addr} {ud bv : Nat} {wa W : World} {pa : Option Addr} {pn pc : Nat} {path : List ByteArray} (hne : path ≠ []) (h : Box wa bv 26 #[.int .i64 u.kind, .bool u.yes, .int .i64 u.num, .string u.text, .slice ua u.list.length uc, .slice ub u.fields.length ud] ∧ u.At wa (fun q => q ≠ bv) (.slice ua u.list.length uc) (.slice ub u.fields.length ud) ∧ Below w.heap.size w wa) (hb : Below wa.heap.size wa W) (hs : tRow.Ss wa.heap.size W (.slice pa pn pc) path) : ST w u ua uc ub ud bv pa pc path W := by
  have hc := ss_cap hs
  obtain ⟨rfl, hr⟩ := hs.srow
  rcases hr with hr | ⟨b, off, e, hlt, hcell⟩
  · exact absurd hr hne
  · exact ⟨h.2.2.trans (hb.mono h.2.2.size), (hb.block _ h.1.lt).trans h.1, h.2.1.is.below hb, hc, b, off, e, hlt, hcell⟩

end Go.Proofs.Ytljhcnlifdmacaa.patchPaths
namespace Go.Proofs.Ytljhcnlifdmacaa.patchPaths
open Go.RowKit

set_option maxHeartbeats 8000000 in
set_option maxRecDepth 100000 in
theorem walk (n : Int) (_w0 : (Lit.int .i64 n).wf = true) (deep : Int) (_w1 : (Lit.int .i64 deep).wf = true) (w : World) :
    Calls Try.prog 9 #[.int .i64 n, .int .i64 deep] w fun e w' => e = .returned (.bool true) ∧ Below w.heap.size w w' := by
  obtain ⟨m, hm⟩ : ∃ m : Nat, n % 32 = m := ⟨(n % 32).toNat, by omega⟩
  obtain ⟨k, hk⟩ : ∃ k : Nat, deep % 32 = k := ⟨(deep % 32).toNat, by omega⟩
  have hmask := and_mask5 n
  have hmask2 := and_mask5 deep
  rw [hm] at hmask
  rw [hk] at hmask2
  have hm2 : m < 32 := by omega
  have hk2 : k < 32 := by omega
  clear hm hk
  go_enter Try.func9, Try.ntmps9
  go_wp2_with fail
  refine (head8_any _).mono ?_
  rintro e w1 ⟨rfl, hb1⟩
  have HB1 := Lib.hid hb1
  clear hb1
  go_wp2_with fail
  refine (ofMap_none none 0 _).mono ?_
  rintro e w2 ⟨fv2, rfl, hat2, hb2⟩
  obtain ⟨_, ⟨qa, qc, rfl⟩, _, _⟩ := hat2.is.len
  have hb02 := HB1.out.trans (hb2.mono HB1.out.size)
  have h2sz := hb02.size
  have HN0 : Hid (w.heap.size ≤ w2.heap.size ∧ Box (w2.alloc (.cells #[.int .i64 5, .bool false, .int .i64 0, .string ⟨#[]⟩, .slice none 0 0, .slice qa 0 qc] 26)) w2.heap.size 26 #[.int .i64 ((nest 0)).kind, .bool ((nest 0)).yes, .int .i64 ((nest 0)).num, .string ((nest 0)).text, .slice none ((nest 0)).list.length 0, .slice qa ((nest 0)).fields.length qc] ∧ (nest 0).At (w2.alloc (.cells #[.int .i64 5, .bool false, .int .i64 0, .string ⟨#[]⟩, .slice none 0 0, .slice qa 0 qc] 26)) (fun q => q ≠ w2.heap.size) (.slice none (nest 0).list.length 0) (.slice qa (nest 0).fields.length qc) ∧ Below w.heap.size w (w2.alloc (.cells #[.int .i64 5, .bool false, .int .i64 0, .string ⟨#[]⟩, .slice none 0 0, .slice qa 0 qc] 26))) :=
    Lib.hid ⟨h2sz, (put_new (y := nest 0) hat2).1, (put_new (y := nest 0) hat2).2, hb02.alloc h2sz _⟩
  clear hb2 hat2 hb02 HB1
  go_wp2_with fail
  go_loopw [6] (fun i wr => ∃ (j : Nat), j ≤ 30 ∧ j ≤ k ∧ i = .int .i64 j ∧ Hid (∃ ua uc ub ud, Box wr w2.heap.size 26 #[.int .i64 ((nest j)).kind, .bool ((nest j)).yes, .int .i64 ((nest j)).num, .string ((nest j)).text, .slice ua ((nest j)).list.length uc, .slice ub ((nest j)).fields.length ud] ∧ (nest j).At wr (fun q => q ≠ w2.heap.size) (.slice ua (nest j).list.length uc) (.slice ub (nest j).fields.length ud) ∧ Below w.heap.size w wr)) (fun i _ => 30 - (intOf i).toNat)
  case atStart => exact ⟨0, by omega, by omega, rfl, Lib.hid ⟨none, 0, qa, qc, HN0.out.2⟩⟩
  case round =>
    obtain ⟨j, hj30, hjk, rfl, HR⟩ := hrel
    obtain ⟨ua, uc, ub, ud, hbx, hat, hbr⟩ := HR.out
    clear HR
    by_cases hgo : j < k ∧ j < 30
    · obtain ⟨hgo1, hgo2⟩ := hgo
      have hg1 : (j : Int) < (k : Int) := by omega
      have hg2 : (j : Int) < 30 := by omega
      have hN1 : V.ofMap [(na, nest j)] = nest (j + 1) := rfl
      have hsm := ((nest_okv j).sm (by omega))
      obtain ⟨u, hu⟩ : ∃ u, u = nest j := ⟨_, rfl⟩
      rw [← hu] at hbx hat hN1 hsm
      have hcall := ofMap_one na u ua uc ub ud wr hat.is hsm _ rfl
      rw [hN1] at hcall
      have hA : Below wr.heap.size wr (wr.alloc (.cells #[.string na, .int .i64 u.kind, .bool u.yes, .int .i64 u.num, .string u.text, .slice ua u.list.length uc, .slice ub u.fields.length ud] 30)) := (Below.refl _ wr).alloc (Nat.le_refl _) _
      have HX := Lib.hid (And.intro hbx (And.intro hbr hA))
      have HCALL := Lib.hid hcall
      obtain ⟨⟨x0, x1, x2, x3, x4, x5⟩, f0, f1, f2, f3, f4, f5⟩ := hbx.six
      have hxl := hbx.lt
      have HJ := Lib.hid (And.intro hgo1 hgo2)
      clear hcall hbx hat hbr hA hN1 hsm hu hgo1 hgo2
      go_wp2_with fail
      refine HCALL.out.mono ?_
      rintro e w4 ⟨fa, fc, rfl, hat4, hb4⟩
      obtain ⟨hbx, hbr, hA⟩ := HX.out
      have hb4' := hA.trans (hb4.mono hA.size)
      have hbx4 : Box w4 w2.heap.size 26 #[.int .i64 u.kind, .bool u.yes, .int .i64 u.num, .string u.text, .slice ua u.list.length uc, .slice ub u.fields.length ud] := (hb4'.block _ hbx.lt).trans hbx
      have hb04 := hbr.trans (hb4'.mono hbr.size)
      have HE : Hid (∃ ua uc ub ud, Box (sets w4 w2.heap.size 0 [.int .i64 5, .bool false, .int .i64 0, .string ⟨#[]⟩, .slice none 0 0, .slice fa 1 fc]) w2.heap.size 26 #[.int .i64 ((nest (j + 1))).kind, .bool ((nest (j + 1))).yes, .int .i64 ((nest (j + 1))).num, .string ((nest (j + 1))).text, .slice ua ((nest (j + 1))).list.length uc, .slice ub ((nest (j + 1))).fields.length ud] ∧ (nest (j + 1)).At (sets w4 w2.heap.size 0 [.int .i64 5, .bool false, .int .i64 0, .string ⟨#[]⟩, .slice none 0 0, .slice fa 1 fc]) (fun q => q ≠ w2.heap.size) (.slice ua (nest (j + 1)).list.length uc) (.slice ub (nest (j + 1)).fields.length ud) ∧ Below w.heap.size w (sets w4 w2.heap.size 0 [.int .i64 5, .bool false, .int .i64 0, .string ⟨#[]⟩, .slice none 0 0, .slice fa 1 fc])) :=
        Lib.hid ⟨none, 0, fa, fc, box_sets6 hbx4 _ _ _ _ _ _, at_ends hat4 (fun q hq => by have := hbx.lt; have := hA.size; have h9 : q ≠ w2.heap.size := (by omega); exact ⟨h9, h9⟩) _, below_ends hb04 HN0.out.1 _⟩
      clear x0 x1 x2 x3 x4 x5 f0 f1 f2 f3 f4 f5 hxl
      obtain ⟨⟨x0, x1, x2, x3, x4, x5⟩, f0, f1, f2, f3, f4, f5⟩ := hbx4.six
      have hxl := hbx4.lt
      clear hat4 hb4 hbx hbr hA hb4' hbx4 hb04 HX HCALL
      go_wp2
      go_roundw
      case rel => exact ⟨j + 1, by have := HJ.out; omega, by have := HJ.out; omega, by go_num, HE⟩
      case measure => have := HJ.out; simp [intOf]; omega
    · obtain ⟨d, hd⟩ : ∃ d : Nat, d = min k 30 := ⟨_, rfl⟩
      obtain rfl : j = d := by omega
      have hDk := Lib.hid hd
      have hU8 : (nest j).okv 8 := (nest_okv j).mono (by omega)
      have hnl : (nest j).list.length = 0 ∧ (nest j).kind = 5 := by cases j <;> exact ⟨rfl, rfl⟩
      obtain ⟨u, hu⟩ : ∃ u, u = nest j := ⟨_, rfl⟩
      rw [← hu] at hbx hat hU8 hnl
      have HU8 := Lib.hid (And.intro hU8 hu)
      have HV0 := Lib.hid (And.intro hbx (And.intro hat hbr))
      have hex : ((j : Int) < (k : Int) ∧ ¬ (j : Int) < 30) ∨ ¬ (j : Int) < (k : Int) := by omega
      clear hbx hat hbr hU8 hnl hu hd hgo HN0
      go_upto_region 7 with (fail)
      go_cut [28] (fun t wx => t = .bool false ∧ Hid (Box wx w2.heap.size 26 #[.int .i64 u.kind, .bool u.yes, .int .i64 u.num, .string u.text, .slice ua u.list.length uc, .slice ub u.fields.length ud] ∧ u.At wx (fun q => q ≠ w2.heap.size) (.slice ua u.list.length uc) (.slice ub u.fields.length ud) ∧ Below w.heap.size w wx))
      case first =>
        rcases hex with ⟨hq1, hq2⟩ | hq1
        all_goals
          go_wp2_with fail
          go_meet
          exact ⟨rfl, HV0⟩
      case rest =>
        obtain ⟨rfl, HV⟩ := hcut
        have hself := tRow.ss_empty wc wc.heap.size (Nat.le_refl _)
        have HS0 := Lib.hid (And.intro hself ((Below.refl _ wc).alloc (Nat.le_refl _) (.cells #[] 9)))
        clear hself HV0 hex
        go_wp2_with fail
        go_loopw [7, 8] (fun p i wx => ∃ l : Nat, l ≤ m ∧ i = .int .i64 l ∧ Hid (tRow.Ss wc.heap.size wx p (List.replicate l na) ∧ Below wc.heap.size wc wx)) (fun _ i _ => m - (intOf i).toNat)
        case atStart => exact ⟨0, by omega, rfl, HS0⟩
        case round =>
          clear HS0
          obtain ⟨l, hlm, rfl, HL⟩ := hrel
          by_cases hlt : l < m
          · have hlt' : (l : Int) < (m : Int) := by omega
            have hs1 := HL.out.1
            have hrow : tRow.SRow (wr.alloc (.cells #[.string ⟨#[97]⟩] 9)) (some ⟨wr.heap.size, 0, none⟩) [⟨#[97]⟩] := .inr ⟨wr.heap.size, 0, rfl, by simp, fun i hi => by
              obtain rfl : i = 0 := by simp at hi; omega
              simp⟩
            have hown := World.ownsRow.alloc hs1 (.cells #[.string ⟨#[97]⟩] 9)
            have hlen : (List.replicate l na).length ≤ 100 := by simp; omega
            have HB := HL.out.2.size
            have HLT := Lib.hid hlt
            go_wp2_with (at_builtin; refine tRow.wpList_app_s _ rfl (.tmp 42) (.tmp 43) rfl _ _ _ rfl hown (some ⟨wr.heap.size, 0, none⟩) 1 1 [⟨#[97]⟩] hrow rfl (fun h => by cases h) rfl (by omega) (by simp; omega) ?_; intro v1 w3 hown1 hup1)
            rw [show List.replicate l na ++ [⟨#[97]⟩] = List.replicate (l + 1) na from (List.replicate_succ' (n := l) (a := na)).symm] at hown1
            have HX := Lib.hid (And.intro hown1 (HL.out.2.trans (tRow.Ss.upBelow hup1.alloc hs1 HB)))
            clear hown1 hup1 hs1 HB hrow hown hlen HL
            go_roundw
            case rel => exact ⟨l + 1, HLT.out, by have := HLT.out; go_num, HX⟩
            case measure => have := HLT.out; simp [intOf]; omega
          · obtain rfl : l = m := by omega
            have hge : ¬ (l : Int) < (l : Int) := by omega
            have hs1 := HL.out.1
            have hrow : tRow.SRow (wr.alloc (.cells #[.string ⟨#[98]⟩] 9)) (some ⟨wr.heap.size, 0, none⟩) [⟨#[98]⟩] := .inr ⟨wr.heap.size, 0, rfl, by simp, fun i hi => by
              obtain rfl : i = 0 := by simp at hi; omega
              simp⟩
            have hown := World.ownsRow.alloc hs1 (.cells #[.string ⟨#[98]⟩] 9)
            have hlen : (List.replicate l na).length ≤ 100 := by simp; omega
            have HB := HL.out.2.size
            go_wp2_with (at_builtin; refine tRow.wpList_app_s _ rfl (.tmp 45) (.tmp 46) rfl _ _ _ rfl hown (some ⟨wr.heap.size, 0, none⟩) 1 1 [⟨#[98]⟩] hrow rfl (fun h => by cases h) rfl (by omega) (by simp; omega) ?_; intro v1 w3 hown1 hup1)
            rw [show List.replicate l na ++ [⟨#[98]⟩] = thePath l from rfl] at hown1
            obtain ⟨pa, pc, hv⟩ := hown1.form
            subst hv
            have hst := ss_st (by intro e; have := path_len l; rw [e] at this; simp at this) HV.out (HL.out.2.trans (tRow.Ss.upBelow hup1.alloc hs1 HB)) hown1
            obtain ⟨r, hr⟩ : ∃ r, applyV u [⟨1, thePath l, intV 1⟩] = r := ⟨_, rfl⟩
            have HR := Lib.hid hr
            have HS3 : Hid (ST w u ua uc ub ud w2.heap.size pa pc (thePath l) w3.drew) := Lib.hid (hst.below (Below.refl _ w3).drew)
            have HS3z : Hid (ST w u ua uc ub ud w2.heap.size pa pc (thePath l) (w3.alloc (.cells #[.int .i64 0, .bool false, .int .i64 0, .string ⟨#[]⟩, .slice none 0 0, .slice none 0 0] 26)).drew) := Lib.hid ((hst.al (.cells #[.int .i64 0, .bool false, .int .i64 0, .string ⟨#[]⟩, .slice none 0 0, .slice none 0 0] 26)).below (Below.refl _ _).drew)
            obtain ⟨⟨q0, q1, q2, q3, q4, q5⟩, _⟩ := hst.2.1.six
            have hql := hst.2.1.lt
            clear hown1 hup1 hst hr hrow hown hs1 hlen HB HL HV
            go_upto_region 16 with (fail)
            go_cut [9, 10] (fun p c wx => ∃ bx ya yc yb yd, p = .pointer (some ⟨bx, 0, none⟩) ∧ c = .int .i64 (resC r) ∧ Hid (Box wx bx 26 #[.int .i64 (resV r).kind, .bool (resV r).yes, .int .i64 (resV r).num, .string (resV r).text, .slice ya (resV r).list.length yc, .slice yb (resV r).fields.length yd] ∧ (resV r).At wx (fun q => q ≠ bx) (.slice ya (resV r).list.length yc) (.slice yb (resV r).fields.length yd) ∧ Below w.heap.size w wx ∧ w.heap.size ≤ bx))
            case first =>
              go_region_with (first
                | (go_at_call 21
                   refine (one_call rfl HR.out (by first | exact HS6.out | exact HS6.out.al _ | exact (HS6.out.al _).al _) HU8.out.1 (by first | exact Box.new _ _ _ | exact (Box.new _ _ _).alloc _ | exact box_new2 _ _ _ _)).mono ?_
                   rintro e w8 ⟨ya, yc, yb, yd, rfl, hyat, hyb⟩
                   first
                     | (have hz8 : Box w8 w3.heap.size 26 #[.int .i64 0, .bool false, .int .i64 0, .string ⟨#[]⟩, .slice none 0 0, .slice none 0 0] := (hyb.block _ (by have := HZ6.out.lt; simp; omega)).trans (HZ6.out.alloc _)
                        have HF := Lib.hid (end_box hz8 (by have := HZ6.out.lt; simp; omega) hyb HS3.out.1.size ((HS6.out.al _).1) hyat)
                        obtain ⟨⟨z0, z1, z2, z3, z4, z5⟩, zf⟩ := hz8.six
                        have hzl := hz8.lt
                        clear hz8 hyat hyb)
                     | (have hz8 : Box w8 w6.heap.size 26 #[.int .i64 0, .bool false, .int .i64 0, .string ⟨#[]⟩, .slice none 0 0, .slice none 0 0] := (hyb.block _ (by simp; omega)).trans ((Box.new w6 _ _).alloc _)
                        have HF := Lib.hid (end_box hz8 (by simp; omega) hyb HS6.out.1.size (((HS6.out.al _).al _).1) hyat)
                        obtain ⟨⟨z0, z1, z2, z3, z4, z5⟩, zf⟩ := hz8.six
                        have hzl := hz8.lt
                        clear hz8 hyat hyb)
                     | (have hz8 : Box w8 (w6.heap.size + 1) 26 #[.int .i64 0, .bool false, .int .i64 0, .string ⟨#[]⟩, .slice none 0 0, .slice none 0 0] := (hyb.block _ (by simp)).trans (box_new2 w6 _ _ _)
                        have HF := Lib.hid (end_box hz8 (by simp) hyb (by have := HS6.out.1.size; omega) (((HS6.out.al _).al _).1) hyat)
                        obtain ⟨⟨z0, z1, z2, z3, z4, z5⟩, zf⟩ := hz8.six
                        have hzl := hz8.lt
                        clear hz8 hyat hyb)
                     | (have HF := Lib.hid (end_new hyb (HS6.out.al _).1 hyat)
                        clear hyat hyb))
                | (go_at_call 31
                   refine (ofInt_any _ _).mono ?_
                   rintro e w6 ⟨rfl, hb6⟩
                   have HS6 : Hid (ST w u ua uc ub ud w2.heap.size pa pc (thePath l) w6) := Lib.hid (HS3.out.below hb6)
                   obtain ⟨⟨q0, q1, q2, q3, q4, q5⟩, _⟩ := HS6.out.2.1.six
                   have hql := HS6.out.2.1.lt
                   clear hb6)
                | (go_at_call 31
                   refine (ofInt_any _ _).mono ?_
                   rintro e w6 ⟨rfl, hb6⟩
                   have HS6 : Hid (ST w u ua uc ub ud w2.heap.size pa pc (thePath l) w6) := Lib.hid (HS3z.out.below hb6)
                   have HZ6 : Hid (Box w6 w3.heap.size 26 #[.int .i64 0, .bool false, .int .i64 0, .string ⟨#[]⟩, .slice none 0 0, .slice none 0 0]) := Lib.hid ((hb6.block _ (by show w3.heap.size < (w3.alloc _).heap.size; simp)).trans (Box.new w3 _ _))
                   obtain ⟨⟨q0, q1, q2, q3, q4, q5⟩, _⟩ := HS6.out.2.1.six
                   have hql := HS6.out.2.1.lt
                   clear hb6))
              all_goals
                go_wp2_with fail
                go_meet
                exact ⟨_, ya, yc, yb, yd, rfl, rfl, HF⟩
            case rest =>
              clear q0 q1 q2 q3 q4 q5 hql HS3 HS3z
              obtain ⟨bx, ya, yc, yb, yd, rfl, rfl, HC⟩ := hcut
              have hmin : min (k : Int) 30 = (j : Int) := by have := hDk.out; omega
              by_cases h16 : 16 ≤ l
              · have hc : resC r = 1 := by rw [← HR.out, app_long h16]; rfl
                have hgt : (16 : Int) < 1 + (l : Int) := by omega
                rw [hc]
                clear hc h16 HR
                go_wp2
                go_ret
                exact ⟨rfl, HC.out.2.2.1⟩
              · have hgt : ¬ (16 : Int) < 1 + (l : Int) := by omega
                by_cases hlj : j < l
                · have hc : resC r = 5 := by rw [← HR.out, HU8.out.2, app_none (by omega) hlj]; rfl
                  have hjl : (j : Int) < (l : Int) := by omega
                  rw [hc]
                  clear hc h16 hlj HR
                  go_wp2
                  go_ret
                  exact ⟨rfl, HC.out.2.2.1⟩
                · have hr : r = .ok (nestB l j) := by rw [← HR.out, HU8.out.2, app_some (by omega) (by omega) hj30]
                  have hjl : ¬ (j : Int) < (l : Int) := by omega
                  have hc : resC r = 0 := by rw [hr]; rfl
                  rw [hc]
                  have HC0 : Hid (∃ ya yc yb yd, Box wc bx 26 #[.int .i64 (nestB (l - 0) (j - 0)).kind, .bool (nestB (l - 0) (j - 0)).yes, .int .i64 (nestB (l - 0) (j - 0)).num, .string (nestB (l - 0) (j - 0)).text, .slice ya (nestB (l - 0) (j - 0)).list.length yc, .slice yb (nestB (l - 0) (j - 0)).fields.length yd] ∧ (nestB (l - 0) (j - 0)).At wc (fun q => q ≠ bx) (.slice ya (nestB (l - 0) (j - 0)).list.length yc) (.slice yb (nestB (l - 0) (j - 0)).fields.length yd) ∧ Below w.heap.size w wc) := Lib.hid ⟨ya, yc, yb, yd, by
                    have h := HC.out
                    rw [hr] at h
                    exact ⟨h.1, h.2.1, h.2.2.1⟩⟩
                  have HWB := Lib.hid HC.out.2.2.2
                  have HLJ := Lib.hid hlj
                  clear hc hr h16 hlj HR HC
                  go_wp2_with fail
                  go_loopw [11] (fun i wx => ∃ t : Nat, t ≤ l ∧ i = .int .i64 t ∧ Hid (∃ ya yc yb yd, Box wx bx 26 #[.int .i64 (nestB (l - t) (j - t)).kind, .bool (nestB (l - t) (j - t)).yes, .int .i64 (nestB (l - t) (j - t)).num, .string (nestB (l - t) (j - t)).text, .slice ya (nestB (l - t) (j - t)).list.length yc, .slice yb (nestB (l - t) (j - t)).fields.length yd] ∧ (nestB (l - t) (j - t)).At wx (fun q => q ≠ bx) (.slice ya (nestB (l - t) (j - t)).list.length yc) (.slice yb (nestB (l - t) (j - t)).fields.length yd) ∧ Below w.heap.size w wx)) (fun i _ => l - (intOf i).toNat)
                  case atStart => exact ⟨0, Nat.zero_le _, rfl, HC0⟩
                  case round =>
                    clear HC0
                    obtain ⟨t, ht, rfl, HT⟩ := hrel
                    obtain ⟨ya, yc, yb, yd, hbx, hat, hbr⟩ := HT.out
                    have hvk := nestB_kind (l - t) (j - t)
                    have hok := nestB_okv (l - t) (j - t)
                    have hsm : ∀ p ∈ (nestB (l - t) (j - t)).fields, p.2.sm := fun p hp => ((okv_iff.1 hok).2.2 p hp).sm (by omega)
                    have hfl : (nestB (l - t) (j - t)).fields.length ≤ 100000 := by have := (okv_iff.1 hok).1.2.1; omega
                    by_cases htl : t < l
                    · have htl' : (t : Int) < (l : Int) := by omega
                      have hvv : valF (nestB (l - t) (j - t)).fields na = nestB (l - (t + 1)) (j - (t + 1)) := by
                        obtain ⟨p, hp⟩ : ∃ p, l - t = p + 1 := ⟨l - t - 1, by omega⟩
                        rw [hp, got_a, show l - (t + 1) = p by omega, show j - (t + 1) = j - t - 1 by omega]
                      obtain ⟨v, hv⟩ : ∃ v, v = nestB (l - t) (j - t) := ⟨_, rfl⟩
                      rw [← hv] at hbx hat hvk hok hsm hfl hvv
                      have hget := get_w v.kind hvk v.yes v.num v.text ya v.list.length yc (V.at_iff.1 hat.is).2 (fun p hp => hsm p hp) hfl na
                      rw [hvv] at hget
                      obtain ⟨y, hy⟩ : ∃ y, y = nestB (l - (t + 1)) (j - (t + 1)) := ⟨_, rfl⟩
                      rw [← hy] at hget
                      have HGET := Lib.hid hget
                      have HX := Lib.hid (And.intro hbx (And.intro hbr hy))
                      have HTL := Lib.hid htl
                      obtain ⟨⟨x0, x1, x2, x3, x4, x5⟩, _⟩ := hbx.six
                      have hxl := hbx.lt
                      clear hget hvv hbx hat hbr hvk hok hsm hfl hv hy htl HT
                      go_wp2_with fail
                      refine HGET.out.mono ?_
                      rintro e w9 ⟨ga, gc, gb, gd, rfl, hyat, hb9⟩
                      have hbx9 := (hb9.block _ HX.out.1.lt).trans HX.out.1
                      have hbx9 : Box w9 bx 26 _ := hbx9
                      have HE : Hid (∃ ya yc yb yd, Box (sets w9 bx 0 [.int .i64 y.kind, .bool y.yes, .int .i64 y.num, .string y.text, .slice ga y.list.length gc, .slice gb y.fields.length gd]) bx 26 #[.int .i64 (nestB (l - (t + 1)) (j - (t + 1))).kind, .bool (nestB (l - (t + 1)) (j - (t + 1))).yes, .int .i64 (nestB (l - (t + 1)) (j - (t + 1))).num, .string (nestB (l - (t + 1)) (j - (t + 1))).text, .slice ya (nestB (l - (t + 1)) (j - (t + 1))).list.length yc, .slice yb (nestB (l - (t + 1)) (j - (t + 1))).fields.length yd] ∧ (nestB (l - (t + 1)) (j - (t + 1))).At (sets w9 bx 0 [.int .i64 y.kind, .bool y.yes, .int .i64 y.num, .string y.text, .slice ga y.list.length gc, .slice gb y.fields.length gd]) (fun q => q ≠ bx) (.slice ya (nestB (l - (t + 1)) (j - (t + 1))).list.length yc) (.slice yb (nestB (l - (t + 1)) (j - (t + 1))).fields.length yd) ∧ Below w.heap.size w (sets w9 bx 0 [.int .i64 y.kind, .bool y.yes, .int .i64 y.num, .string y.text, .slice ga y.list.length gc, .slice gb y.fields.length gd])) := by
                        rw [← HX.out.2.2]
                        exact Lib.hid ⟨ga, gc, gb, gd, box_sets6 hbx9 _ _ _ _ _ _, at_ends hyat (fun q hq => by have := HX.out.1.lt; exact ⟨by omega, by omega⟩) _, below_ends (HX.out.2.1.trans (hb9.mono HX.out.2.1.size)) HWB.out _⟩
                      clear x0 x1 x2 x3 x4 x5
                      obtain ⟨⟨x0, x1, x2, x3, x4, x5⟩, f0, f1, f2, f3, f4, f5⟩ := hbx9.six
                      have hxl9 := hbx9.lt
                      clear hbx9 hyat hb9 HGET HX hxl
                      go_wp2
                      go_roundw
                      case rel => exact ⟨t + 1, HTL.out, by have := HTL.out; go_num, HE⟩
                      case measure => have := HTL.out; simp [intOf]; omega
                    · obtain rfl : t = l := by omega
                      have hge : ¬ (t : Int) < (t : Int) := by omega
                      rw [Nat.sub_self] at hbx hat hvk hok hsm hfl
                      obtain ⟨hv1, hv2⟩ := got_b (j - t)
                      obtain ⟨v, hv⟩ : ∃ v, v = nestB 0 (j - t) := ⟨_, rfl⟩
                      rw [← hv] at hbx hat hvk hok hsm hfl hv1 hv2
                      have hget := get_w v.kind hvk v.yes v.num v.text ya v.list.length yc (V.at_iff.1 hat.is).2 (fun p hp => hsm p hp) hfl nb
                      rw [hv1, hv2] at hget
                      have HGET := Lib.hid hget
                      have HX := Lib.hid hbr
                      obtain ⟨⟨x0, x1, x2, x3, x4, x5⟩, _⟩ := hbx.six
                      have hxl := hbx.lt
                      have hq4 : (intV 1).num = 1 := rfl
                      clear hget hv1 hv2 hbx hat hbr hvk hok hsm hfl hv HT
                      go_wp2_with fail
                      refine HGET.out.mono ?_
                      rintro e w9 ⟨ga, gc, gb, gd, rfl, hyat, hb9⟩
                      have HF := Lib.hid ((HX.out.trans (hb9.mono HX.out.size)).alloc (HX.out.trans (hb9.mono HX.out.size)).size (.cells #[.int .i64 (intV 1).kind, .bool (intV 1).yes, .int .i64 (intV 1).num, .string (intV 1).text, .slice ga (intV 1).list.length gc, .slice gb (intV 1).fields.length gd] 26))
                      clear hyat hb9 HGET x0 x1 x2 x3 x4 x5 hxl
                      go_wp2
                      go_ret
                      exact ⟨rfl, HF.out⟩

end Go.Proofs.Ytljhcnlifdmacaa.patchPaths
