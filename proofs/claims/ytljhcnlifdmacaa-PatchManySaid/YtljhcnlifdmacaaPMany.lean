/-
  The walk of mailbaglaw08.PatchMany.
-/
import Derived.Test.YtljhcnlifdmacaaPManyM
import Derived.Test.YtljhcnlifdmacaaPRes
import Derived.Test.YtljhcnlifdmacaaOrder
import Derived.Deep.CutRange
namespace Go.Proofs.Ytljhcnlifdmacaa.patchMany
open Go.RowKit

theorem and_mask6 (n : Int) : bits .and .i64 n 63 = n % 64 := by
  have hc : (BitVec.ofInt 64 63).toNat = 2 ^ 6 - 1 := by decide
  have key : (BitVec.ofInt 64 n &&& BitVec.ofInt 64 63).toNat = (n % ((2 ^ 64 : Nat) : Int)).toNat % 2 ^ 6 := by
    rw [BitVec.toNat_and, BitVec.toNat_ofInt, hc, Nat.and_two_pow_sub_one_eq_mod]
  show IntKind.i64.wrap ((BitVec.ofInt 64 n &&& BitVec.ofInt 64 63).toNat : Nat) = n % 64
  rw [key, IntKind.wrap_i64]
  omega

theorem infoO : (Try.prog.info? 50).map (fun i => (i.zero, i.size, i.bytes)) = some (some (.agg #[.int .i64 0, .slice none 0 0, .int .i64 0, .bool false, .int .i64 0, .string ⟨#[]⟩, .slice none 0 0, .slice none 0 0]), 8, 120) := by kernel_rfl

/-- an operation's cells, its path in block p -/
def opc (s : Int) (p : Nat) : List Value := [.int .i64 3, .slice (some ⟨p, 0, none⟩) 1 1, .int .i64 2, .bool false, .int .i64 s, .string ⟨#[]⟩, .slice none 0 0, .slice none 0 0]

def opcs (s : Int) (ps : List Nat) : List Value := ps.flatMap (opc s)

theorem opcs_length (s : Int) : ∀ ps : List Nat, (opcs s ps).length = ps.length * 8
  | [] => rfl
  | p :: r => by
    have := opcs_length s r
    unfold opcs at this ⊢
    rw [List.flatMap_cons, List.length_append, this]
    show 8 + _ = _
    simp; omega
theorem opcs_append (s : Int) (a b : List Nat) : opcs s (a ++ b) = opcs s a ++ opcs s b := by unfold opcs; rw [List.flatMap_append]
theorem opcs_at (s : Int) : ∀ (ps : List Nat) (i j : Nat) (h : i < ps.length), j < 8 → (opcs s ps)[i * 8 + j]? = (opc s ps[i])[j]?
  | [], i, j, h, _ => by simp at h
  | p :: r, i, j, h, hj => by
    have ih := opcs_at s r
    unfold opcs at ih ⊢
    rw [List.flatMap_cons]
    match i, h with
    | 0, _ =>
      rw [List.getElem?_append_left (by show 0 * 8 + j < 8; omega)]
      simp
    | i + 1, h =>
      rw [List.getElem?_append_right (by show 8 ≤ (i + 1) * 8 + j; omega)]
      rw [show (i + 1) * 8 + j - (opc s p).length = i * 8 + j by show (i + 1) * 8 + j - 8 = _; omega, ih i j (by simpa using h) hj]
      simp

/-- the operations so far -/
def OR (B : Nat) (s : Int) (w : World) (v : Value) (ps : List Nat) : Prop :=
  w.ownsRow B 50 8 v ps.length (opcs s ps) ∧ ∀ p ∈ ps, B ≤ p ∧ Box w p 9 #[.string nn] ∧ v.ownBlock ≠ some p

theorem OR.below {B : Nat} {s : Int} {w w' : World} {v : Value} {ps : List Nat} (h : OR B s w v ps) (hb : Below w.heap.size w w') : OR B s w' v ps :=
  ⟨World.ownsRow.kept (row := none) h.1 ⟨hb.os, hb.tape, hb.output, hb.size, fun k hk _ => hb.block k hk⟩ (by by_cases hv : v.ownBlock = none; exact .inl hv; exact .inr hv),
    fun p hp => ⟨(h.2 p hp).1, (hb.block _ (h.2 p hp).2.1.lt).trans (h.2 p hp).2.1, (h.2 p hp).2.2⟩⟩

theorem OR.form {B : Nat} {s : Int} {w : World} {v : Value} {ps : List Nat} (h : OR B s w v ps) : ∃ a c, v = .slice a ps.length c ∧ ps.length ≤ c ∧ c ≤ maxLen := by
  rcases h.1.2 with ⟨rfl, h0⟩ | ⟨g, cap, cur, rfl, h1, h2, h3, h4, _⟩
  · exact ⟨none, 0, by rw [h0], by omega, by unfold maxLen; omega⟩
  · exact ⟨_, _, rfl, by first | exact h3 | exact h4 | omega, by first | exact h4 | exact h3 | omega⟩

theorem OR.ops {B : Nat} {s : Int} {w : World} {a : Option Addr} {n c : Nat} {ps : List Nat} (h : OR B s w (.slice a n c) ps) : OpsAt w All a (List.replicate ps.length (opN s)) := by
  rcases h.1.2 with ⟨hv, h0⟩ | ⟨g, cap, cur, hv, _⟩
  · exact .inl (by rw [h0]; rfl)
  · have hcells := World.ownsRow.cells h.1 (g := g) (by rw [hv]; rfl)
    have hlt := (World.ownsRow.lt h.1 g (by rw [hv]; rfl)).2
    injection hv with h1 h2 h3
    refine .inr ⟨g, 0, h1, hlt, fun i hi => ?_⟩
    have hi' : i < ps.length := by simpa using hi
    have e : (List.replicate ps.length (opN s))[i] = opN s := by simp
    rw [e]
    have hp := h.2 _ (List.getElem_mem hi')
    refine ⟨some ⟨ps[i], 0, none⟩, 1, none, 0, none, 0, fun j u hj => ?_, ⟨Nat.le_refl _, by unfold maxLen; omega⟩, .inr ⟨ps[i], 0, rfl, hp.2.1.lt, fun j hj => ?_⟩, intV_is s w All⟩
    · have hj8 : j < 8 := (List.getElem?_eq_some_iff.1 hj).1
      have h5 := hcells (i * 8 + j) u (by rw [opcs_at s ps i j hi' hj8]; exact hj)
      have e2 : (⟨g, 0, none⟩ : Addr).add (i * 8 + j) = ⟨g, 0 + i * 8 + j, none⟩ := by unfold Addr.add; by_cases h2 : i * 8 + j = 0 <;> simp [h2] <;> omega
      rw [e2] at h5
      exact h5
    · obtain rfl : j = 0 := by have : j < 1 := hj; omega
      rw [hp.2.1.cell]
      rfl

/-- one operation more -/
theorem run_app_o {B : Nat} {s : Int} {w : World} {v : Value} {ps : List Nat} (h : OR B s w v ps) (hB : B ≤ w.heap.size) (hn : ps.length ≤ 1000) {pb qb : Nat} (hpB : B ≤ pb) (hp : Box w pb 9 #[.string nn]) (hpv : v.ownBlock ≠ some pb) (hq : Box w qb 50 (opc s pb).toArray) :
    ∃ v' w', (Builtin.append_ #[39, 39] 39 #[v, .slice (some ⟨qb, 0, none⟩) 1 1]).run Try.prog w = .ok v' w' ∧ OR B s w' v' (ps ++ [pb]) ∧ Below B w w' := by
  obtain ⟨i, hi, hz, hi1, hi2⟩ := info_parts infoO
  obtain ⟨v', w', hr, ho', hu⟩ := run_app (P := Try.prog) w B 39 39 50 i _ 8 120 Try.underlying39 hi hz hi1 hi2 rfl (by decide) v ps.length (opcs s ps) h.1
    ⟨qb, 0, none⟩ 1 1 (opc s pb) rfl (fun j u hj => by
      have e : ((⟨qb, 0, none⟩ : Addr).add j) = ⟨qb, j, none⟩ := by unfold Addr.add; by_cases h0 : j = 0 <;> simp [h0]
      rw [e, hq.cell]
      simpa using hj) (by intro u hu; simp [opc] at hu; rcases hu with rfl | rfl | rfl | rfl | rfl | rfl | rfl <;> rfl) (by unfold maxLen; omega) (by omega) hB
  refine ⟨v', w', hr, ⟨by rw [List.length_append, opcs_append, show opcs s [pb] = opc s pb by simp [opcs]]; exact ho', fun p hpp => ?_⟩, (Below.refl B w).grown hu.1 hB fun k hk => (World.ownsRow.lt h.1 k hk).1⟩
  have key : B ≤ p ∧ Box w p 9 #[.string nn] ∧ v.ownBlock ≠ some p := by
    rcases List.mem_append.1 hpp with hpp | hpp
    · exact h.2 p hpp
    · rw [show p = pb by simpa using hpp]; exact ⟨hpB, hp, hpv⟩
  refine ⟨key.1, (hu.1.block p key.2.1.lt (fun e => key.2.2 e.symm)).trans key.2.1, ?_⟩
  rcases hu.2 with e | e
  · rw [e]; exact key.2.2
  · intro e2
    have h6 := e _ e2
    have h7 := key.2.1.lt
    omega

set_option maxHeartbeats 8000000 in
set_option maxRecDepth 100000 in
theorem walk (n : Int) (_w0 : (Lit.int .i64 n).wf = true) (step : Int) (_w1 : (Lit.int .i64 step).wf = true) (w : World) :
    Calls Try.prog 8 #[.int .i64 n, .int .i64 step] w fun e w' => e = .returned (.bool true) ∧ Below w.heap.size w w' := by
  obtain ⟨m, hm⟩ : ∃ m : Nat, n % 64 = m := ⟨(n % 64).toNat, by omega⟩
  obtain ⟨s, hs⟩ : ∃ s : Nat, step % 16777216 = s := ⟨(step % 16777216).toNat, by omega⟩
  have hmask := and_mask6 n
  have hmask2 := and_mask24 step
  rw [hm] at hmask
  rw [hs] at hmask2
  have hm2 : m < 64 := by omega
  have hs2 : (s : Int) ≤ 16777215 := by omega
  clear hm hs
  have HS2 := Lib.hid hs2
  have his : Hid (Is64 (s : Int)) := Lib.hid (by unfold Is64; omega)
  clear hs2
  go_enter Try.func8, Try.ntmps8
  go_wp2_with fail
  refine (head8_any _).mono ?_
  rintro e w1 ⟨rfl, hb1⟩
  have HB1 := Lib.hid hb1
  have H0 : Hid (OR w1.heap.size s (w1.alloc (.cells #[] 50)) (.slice (some ⟨w1.heap.size, 0, none⟩) 0 0) [] ∧ Below w1.heap.size w1 (w1.alloc (.cells #[] 50))) :=
    Lib.hid ⟨⟨World.ownsRow_made w1 #[] 0 (Nat.le_refl _) (by decide) rfl, fun p hp => by cases hp⟩, (Below.refl _ w1).alloc (Nat.le_refl _) _⟩
  clear hb1
  go_wp2_with fail
  go_loopw [5, 6] (fun v i wr => ∃ l : Nat, l ≤ m ∧ i = .int .i64 l ∧ Hid (∃ ps : List Nat, ps.length = l ∧ OR w1.heap.size s wr v ps ∧ Below w1.heap.size w1 wr)) (fun _ i _ => m - (intOf i).toNat)
  case atStart => exact ⟨0, Nat.zero_le _, rfl, Lib.hid ⟨[], rfl, H0.out⟩⟩
  case round =>
    obtain ⟨l, hl, rfl, HR⟩ := hrel
    clear H0
    by_cases hlt : l < m
    · have hlt' : (l : Int) < (m : Int) := by omega
      obtain ⟨ps, hpl, hor, hbr⟩ := HR.out
      have hA : Below wr.heap.size wr (wr.alloc (.cells #[.string ⟨#[110]⟩] 9)) := (Below.refl _ wr).alloc (Nat.le_refl _) _
      have HLT := Lib.hid hlt
      have HX := Lib.hid (And.intro hpl (And.intro hor (And.intro hbr hA)))
      clear hlt hpl hor hbr hA HR
      go_wp2_with fail
      refine (ofInt_any _ _).mono ?_
      rintro e w3 ⟨rfl, hb3⟩
      obtain ⟨hpl, hor, hbr, hA⟩ := HX.out
      have hb13 : Below wr.heap.size wr w3 := hA.trans (hb3.mono hA.size)
      have hp3 : Box w3 wr.heap.size 9 #[.string nn] := (hb3.block _ (by simp)).trans (Box.new wr _ _)
      have hB4 : Below w3.heap.size w3 (w3.alloc (.cells #[.int .i64 3, .slice (some ⟨wr.heap.size, 0, none⟩) 1 1, .int .i64 2, .bool false, .int .i64 s, .string ⟨#[]⟩, .slice none 0 0, .slice none 0 0] 50)) := (Below.refl _ w3).alloc (Nat.le_refl _) _
      have hz1 := hbr.size
      have hz2 := hb13.size
      have hz3 := hB4.size
      obtain ⟨v', w4, hr, hor4, hb4⟩ := run_app_o ((hor.below hb13).below hB4) (by omega) (by omega) (pb := wr.heap.size) (qb := w3.heap.size) hz1 (hp3.alloc _) (fun e => by have := (World.ownsRow.lt hor.1 _ e).2; omega) (Box.new w3 _ _)
      have HE : Hid (∃ ps : List Nat, ps.length = l + 1 ∧ OR w1.heap.size s w4 v' ps ∧ Below w1.heap.size w1 w4) := Lib.hid ⟨ps ++ [wr.heap.size], by simp [hpl], hor4, hbr.trans ((hb13.mono hz1).trans ((hB4.mono (by omega)).trans hb4))⟩
      clear hpl hor hbr hA hb13 hp3 hB4 hz1 hz2 hz3 hor4 hb4 hb3 HX
      go_wp2_with (at_builtin; refine Lib.wpList_append_run _ rfl _ _ _ _ rfl _ _ rfl rfl _ _ hr ?_)
      go_roundw
      case rel => exact ⟨l + 1, HLT.out, by have := HLT.out; go_num, HE⟩
      case measure => have := HLT.out; simp [intOf]; omega
    · obtain rfl : l = m := by omega
      obtain ⟨ps, hpl, hor, hbr⟩ := HR.out
      obtain ⟨a, c, hv, hc1, hc2⟩ := hor.form
      rw [hpl] at hv
      subst hv
      have hops := hor.ops
      rw [hpl] at hops
      have hbr0 := HB1.out.trans (hbr.mono HB1.out.size)
      obtain ⟨ops, hopsE⟩ : ∃ ops, ops = List.replicate l (opN s) := ⟨_, rfl⟩
      have hol : ops.length = l := by rw [hopsE]; simp
      rw [← hopsE] at hops
      obtain ⟨q, hq⟩ : ∃ q : Int, q = (l : Int) * (s : Int) := ⟨_, rfl⟩
      have hqb : 0 ≤ q ∧ q ≤ 1073741824 := by
        have h1 : (l : Int) * (s : Int) ≤ 64 * 16777215 := Int.mul_le_mul (by omega) HS2.out (by omega) (by omega)
        have h2 : 0 ≤ (l : Int) * (s : Int) := Int.mul_nonneg (by omega) (by omega)
        omega
      have HQ := Lib.hid (And.intro hq (And.intro hqb (And.intro hopsE hol)))
      have H1 := Lib.hid (And.intro hops hbr0)
      have hsm0 : (intV 0).sm := (intV_okv (by unfold Is64; omega) 1).sm (by omega)
      have HSM0 := Lib.hid hsm0
      clear hpl hor hbr hc1 hc2 hops hbr0 hopsE hq hqb hol hlt HR hsm0
      go_wp2_with fail
      refine (ofInt_any _ _).mono ?_
      rintro e w5 ⟨rfl, hb5⟩
      have hcall := ofMap_one nn (intV 0) none 0 none 0 w5 (intV_is 0 w5 All) HSM0.out _ rfl
      have hA : Below w5.heap.size w5 (w5.alloc (.cells #[.string nn, .int .i64 2, .bool false, .int .i64 0, .string ⟨#[]⟩, .slice none 0 0, .slice none 0 0] 30)) := (Below.refl _ w5).alloc (Nat.le_refl _) _
      have HCALL := Lib.hid hcall
      have H5 := Lib.hid (And.intro hb5 hA)
      clear hcall hA hb5
      go_wp2_with fail
      refine HCALL.out.mono ?_
      rintro e w6 ⟨fa, fc, rfl, hat6, hb6⟩
      obtain ⟨hb5, hA⟩ := H5.out
      have hb16 : Below wr.heap.size wr w6 := hb5.trans ((hA.trans (hb6.mono hA.size)).mono hb5.size)
      have hops6 := H1.out.1.below hb16
      have hb06 := H1.out.2.trans (hb16.mono H1.out.2.size)
      have hap : Calls Try.prog 21 #[.agg #[.int .i64 5, .bool false, .int .i64 0, .string ⟨#[]⟩, .slice none 0 0, .slice fa 1 fc], .slice a l c] w6 (ResP (applyV (docN 0) ops) (fun _ => False) w6) := by
        have h := apply_any (docN 0) ops none 0 fa fc a c 8 w6 hat6.is hops6 (by rw [HQ.out.2.2.2]; omega) (doc_okv (by unfold Is64; omega) 8 (by omega)) (by omega) (fun o ho _ => by
          rw [HQ.out.2.2.1] at ho
          rw [(List.mem_replicate.1 ho).2]
          exact intV_okv his.out 8)
        rw [HQ.out.2.2.2] at h
        exact h
      have hsmo : ∀ o ∈ ops, SmO o := by rw [HQ.out.2.2.1]; exact sm_n his.out l
      by_cases h50 : l ≤ 50
      · rw [HQ.out.2.2.1, app_n (by omega) h50 (by rw [← HQ.out.1]; have := HQ.out.2.1; omega), ← HQ.out.1] at hap
        have henc := enc_n his.out h50
        rw [← HQ.out.2.2.1] at henc
        obtain ⟨S, hS⟩ : ∃ S : ByteArray, S = ⟨(octN ops.length ++ layOs ops).toArray⟩ := ⟨_, rfl⟩
        rw [← hS] at henc
        have hn50 : ¬ (50 : Int) < (l : Int) := by omega
        have HAP := Lib.hid hap
        have HENC := Lib.hid (And.intro henc hsmo)
        have H6 := Lib.hid (And.intro hops6 hb06)
        clear hap henc hS hsmo hops6 hb06 hb16 hb5 hA hb6 hat6 H5 HCALL H1 h50
        go_wp2_with fail
        refine HAP.out.mono ?_
        rintro e w7 ⟨hb7, xa, xc, xb, xd, rfl, hat7⟩
        have hA7 : Below w7.heap.size w7 (w7.alloc (.cells #[.int .i64 (docN q).kind, .bool (docN q).yes, .int .i64 (docN q).num, .string (docN q).text, .slice xa (docN q).list.length xc, .slice xb (docN q).fields.length xd] 26)) := (Below.refl _ w7).alloc (Nat.le_refl _) _
        have henc7 := encode_any ops a c _ ((H6.out.1.below hb7).below hA7) (by rw [HQ.out.2.2.2]; omega) HENC.out.2
        rw [HENC.out.1, HQ.out.2.2.2] at henc7
        have hb07 := H6.out.2.trans ((hb7.trans (hA7.mono hb7.size)).mono H6.out.2.size)
        have hbx7 := Box.new w7 26 #[.int .i64 (docN q).kind, .bool (docN q).yes, .int .i64 (docN q).num, .string (docN q).text, .slice xa (docN q).list.length xc, .slice xb (docN q).fields.length xd]
        have H7 := Lib.hid (And.intro hb07 (And.intro hbx7 (hat7.is.below hA7)))
        have HE7 := Lib.hid henc7
        clear hA7 henc7 hb07 hbx7 hat7 hb7 HAP H6
        go_wp2_with fail
        refine HE7.out.mono ?_
        rintro e w8 ⟨rfl, hb8⟩
        have hbx8 : Box w8 w7.heap.size 26 #[.int .i64 (docN q).kind, .bool (docN q).yes, .int .i64 (docN q).num, .string (docN q).text, .slice xa (docN q).list.length xc, .slice xb (docN q).fields.length xd] := (hb8.block _ H7.out.2.1.lt).trans H7.out.2.1
        have hget := get_w (W := w8) (kf := [(nn, intV q)]) (docN q).kind rfl (docN q).yes (docN q).num (docN q).text xa (docN q).list.length xc (V.at_iff.1 (H7.out.2.2.below hb8)).2 (fun p hp => by
          rw [show p = (nn, intV q) by simpa using hp]
          exact (intV_okv (by have := HQ.out.2.1; unfold Is64; omega) 1).sm (by omega)) (by simp) nn
        rw [val_n, is_n] at hget
        have H8 := Lib.hid (H7.out.1.trans (hb8.mono H7.out.1.size))
        have HGET := Lib.hid hget
        obtain ⟨⟨x0, x1, x2, x3, x4, x5⟩, _⟩ := hbx8.six
        have hxl := hbx8.lt
        clear hbx8 hget hb8 HE7 H7
        go_wp2_with fail
        refine HGET.out.mono ?_
        rintro e w9 ⟨ga, gc, gb, gd, rfl, hatg, hb9⟩
        have HF := Lib.hid (H8.out.trans ((hb9.trans (((Below.refl _ w9).alloc (Nat.le_refl _) (.cells #[.int .i64 (intV q).kind, .bool (intV q).yes, .int .i64 (intV q).num, .string (intV q).text, .slice ga (intV q).list.length gc, .slice gb (intV q).fields.length gd] 26)).mono hb9.size)).mono H8.out.size))
        have hq1 : (l : Int) * (s : Int) = q := HQ.out.1.symm
        have hq2 : q ≤ 1073741824 := HQ.out.2.1.2
        have hq3 : 0 ≤ q := HQ.out.2.1.1
        have hq4 : (intV q).num = q := rfl
        clear hatg hb9 HGET x0 x1 x2 x3 x4 x5
        go_wp2
        go_ret
        exact ⟨rfl, HF.out⟩
      · rw [HQ.out.2.2.1, app_long (by omega)] at hap
        have henc := enc_long (s := s) (k := l) (by omega)
        rw [← HQ.out.2.2.1] at henc
        have hn50 : (50 : Int) < (l : Int) := by omega
        have HAP := Lib.hid hap
        have HENC := Lib.hid (And.intro henc hsmo)
        have H6 := Lib.hid (And.intro hops6 hb06)
        clear hap henc hsmo hops6 hb06 hb16 hb5 hA hb6 hat6 H5 HCALL H1 h50
        go_wp2_with fail
        refine HAP.out.mono ?_
        rintro e w7 ⟨hb7, _, rfl⟩
        have hA7 : Below w7.heap.size w7 (w7.alloc (.cells #[.int .i64 0, .bool false, .int .i64 0, .string ⟨#[]⟩, .slice none 0 0, .slice none 0 0] 26)) := (Below.refl _ w7).alloc (Nat.le_refl _) _
        have henc7 := encode_any ops a c _ ((H6.out.1.below hb7).below hA7) (by rw [HQ.out.2.2.2]; omega) HENC.out.2
        rw [HENC.out.1, HQ.out.2.2.2] at henc7
        have H7 := Lib.hid (H6.out.2.trans ((hb7.trans (hA7.mono hb7.size)).mono H6.out.2.size))
        have HE7 := Lib.hid henc7
        clear hA7 henc7 hb7 HAP H6
        go_wp2_with fail
        refine HE7.out.mono ?_
        rintro e w8 ⟨rfl, hb8⟩
        have HF := Lib.hid (H7.out.trans (hb8.mono H7.out.size))
        clear hb8 HE7
        go_wp2
        go_ret
        exact ⟨rfl, HF.out⟩

end Go.Proofs.Ytljhcnlifdmacaa.patchMany
