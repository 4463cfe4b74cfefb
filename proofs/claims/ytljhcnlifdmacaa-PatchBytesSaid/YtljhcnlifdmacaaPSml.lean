/-
  What Apply tells, in one form; Get of a map, its value in new blocks.
  mailbaglaw08.Few and right: operations that are few, on short paths; which are right, by the law's own word.
  mailbaglaw08.right: which operations are right, by the law's own word: it is the program's.
  An operation as an argument: its eight cells.
  Plain facts for mailbaglaw08.PatchOrders: operations on unlike fields, in either order.
-/
import Derived.Test.YtljhcnlifdmacaaPBB
import Derived.Test.YtljhcnlifdmacaaVFew
import Derived.Test.YtljhcnlifdmacaaVArg
import Derived.Test.YtljhcnlifdmacaaTRow
import Derived.Test.YtljhcnlifdmacaaIsRow
import Derived.Lib.SmallJoins
import Derived.Deep.Slices
import Derived.Deep.Strs
section
namespace Go.Proofs.Ytljhcnlifdmacaa
open Go.RowKit

/-- the value; null where it failed -/
def resV : Except Int V → V
  | .error _ => V.null
  | .ok y => y
/-- the error's number -/
def resC : Except Int V → Int
  | .error c => c
  | .ok _ => 0

theorem res_any {r : Except Int V} {w w' : World} {e : Ending} (h : ResP r (fun _ => False) w e w') : ∃ ya yc yb yd, e = .returned (.tuple #[.agg #[.int .i64 ((resV r)).kind, .bool ((resV r)).yes, .int .i64 ((resV r)).num, .string ((resV r)).text, .slice ya ((resV r)).list.length yc, .slice yb ((resV r)).fields.length yd], .int .i64 (resC r)]) ∧ (resV r).At w' (fun q => w.heap.size ≤ q) (.slice ya (resV r).list.length yc) (.slice yb (resV r).fields.length yd) ∧ Below w.heap.size w w' := by
  cases r with
  | error c =>
    obtain ⟨hb, _, rfl⟩ := h
    exact ⟨none, 0, none, 0, rfl, none_at _ _ V.null rfl rfl, hb⟩
  | ok y =>
    obtain ⟨hb, a, c, a', c', rfl, hat⟩ := h
    exact ⟨a, c, a', c', rfl, hat.wider (fun q hq => hq.resolve_left id), hb⟩

/-- Get of a map: what it gives lies in new blocks -/
theorem get_w {W : World} {kf : List Fd} (kk : Int) (hkk : kk = 5) (y : Bool) (m : Int) (t : ByteArray) (ax : Option Addr) (lx cx : Nat) {ma : Option Addr} {n mc : Nat} (hfa : FAt W All kf (.slice ma n mc)) (hsm : ∀ p ∈ kf, p.2.sm) (hlen : kf.length ≤ 100000) (nm : ByteArray) :
    Calls Try.prog 14 #[.agg #[.int .i64 kk, .bool y, .int .i64 m, .string t, .slice ax lx cx, .slice ma n mc], .string nm] W fun e w' =>
      ∃ ga gc gb gd, e = .returned (.tuple #[.agg #[.int .i64 ((valF kf nm)).kind, .bool ((valF kf nm)).yes, .int .i64 ((valF kf nm)).num, .string ((valF kf nm)).text, .slice ga ((valF kf nm)).list.length gc, .slice gb ((valF kf nm)).fields.length gd], .bool (isF kf nm)]) ∧ (valF kf nm).At w' (fun q => W.heap.size ≤ q) (.slice ga (valF kf nm).list.length gc) (.slice gb (valF kf nm).fields.length gd) ∧ Below W.heap.size W w' := by
  subst hkk
  refine (get_map y m t ax lx cx kf nm (.slice ma n mc) W hsm hlen hfa).mono ?_
  rintro e w' ⟨hb, h⟩
  rcases h with ⟨x, lv, fv, hg, rfl, hat⟩ | ⟨hg, rfl⟩
  · obtain ⟨⟨ga, gc, rfl⟩, ⟨gb, gd, rfl⟩, _, _⟩ := hat.is.len
    have e1 : valF kf nm = x := by unfold valF; rw [hg]; rfl
    rw [e1]
    exact ⟨ga, gc, gb, gd, by unfold isF; rw [hg]; rfl, hat, hb⟩
  · have e1 : valF kf nm = V.null := by unfold valF; rw [hg]; rfl
    rw [e1]
    exact ⟨none, 0, none, 0, by unfold isF; rw [hg]; rfl, none_at _ _ V.null rfl rfl, hb⟩

/-- the zero box that an alloc makes, and what it is behind a call and a store -/
theorem put_box {w8 : World} {y : V} {bx N : Nat} {ya : Option Addr} {yc : Nat} {yb : Option Addr} {yd : Nat} (hz : Box w8 bx 26 #[.int .i64 0, .bool false, .int .i64 0, .string ⟨#[]⟩, .slice none 0 0, .slice none 0 0]) (hlt : bx < N) (hy : y.At w8 (fun q => N ≤ q) (.slice ya y.list.length yc) (.slice yb y.fields.length yd)) :
    Box (sets w8 bx 0 [.int .i64 y.kind, .bool y.yes, .int .i64 y.num, .string y.text, .slice ya y.list.length yc, .slice yb y.fields.length yd]) bx 26 #[.int .i64 y.kind, .bool y.yes, .int .i64 y.num, .string y.text, .slice ya y.list.length yc, .slice yb y.fields.length yd] ∧ y.At (sets w8 bx 0 [.int .i64 y.kind, .bool y.yes, .int .i64 y.num, .string y.text, .slice ya y.list.length yc, .slice yb y.fields.length yd]) (fun q => q ≠ bx) (.slice ya y.list.length yc) (.slice yb y.fields.length yd) :=
  ⟨box_sets6 hz _ _ _ _ _ _, at_ends hy (fun q hq => ⟨by omega, by omega⟩) _⟩

theorem put_new {w8 : World} {y : V} {N : Nat} {ya : Option Addr} {yc : Nat} {yb : Option Addr} {yd : Nat} (hy : y.At w8 (fun q => N ≤ q) (.slice ya y.list.length yc) (.slice yb y.fields.length yd)) :
    Box (w8.alloc (.cells #[.int .i64 y.kind, .bool y.yes, .int .i64 y.num, .string y.text, .slice ya y.list.length yc, .slice yb y.fields.length yd] 26)) w8.heap.size 26 #[.int .i64 y.kind, .bool y.yes, .int .i64 y.num, .string y.text, .slice ya y.list.length yc, .slice yb y.fields.length yd] ∧ y.At (w8.alloc (.cells #[.int .i64 y.kind, .bool y.yes, .int .i64 y.num, .string y.text, .slice ya y.list.length yc, .slice yb y.fields.length yd] 26)) (fun q => q ≠ w8.heap.size) (.slice ya y.list.length yc) (.slice yb y.fields.length yd) := by
  have hA : Below w8.heap.size w8 (w8.alloc (.cells #[.int .i64 y.kind, .bool y.yes, .int .i64 y.num, .string y.text, .slice ya y.list.length yc, .slice yb y.fields.length yd] 26)) := (Below.refl _ w8).alloc (Nat.le_refl _) _
  exact ⟨Box.new w8 _ _, V.At.move (fun q _ hl => ⟨Nat.ne_of_lt hl, hA.block q hl⟩) hA.size _ (Nat.le_refl _) hy⟩

end Go.Proofs.Ytljhcnlifdmacaa
end

section
namespace Go.Proofs.Ytljhcnlifdmacaa
open Go.RowKit

def fewP (p : List ByteArray) : Bool := p.all fun s => decide (s.size ≤ 40)
def fewO (o : PO) : Bool := decide (o.path.length ≤ 20) && (o.val.few 0 && fewP o.path)
def fewOs (ops : List PO) : Bool := ops.all fewO && decide (ops.length ≤ 60)

/-- a path's names where they lie -/
def PathIn (w : World) (pa : Option Addr) (p : List ByteArray) : Prop := p = [] ∨ ∃ pb poff, pa = some ⟨pb, poff, none⟩ ∧ StrAt w pb poff p
theorem PathIn.below {w w' : World} {pa : Option Addr} {p : List ByteArray} (h : PathIn w pa p) (hb : Below w.heap.size w w') : PathIn w' pa p :=
  h.imp id fun ⟨pb, poff, e, hs⟩ => ⟨pb, poff, e, hs.below hb⟩

set_option maxHeartbeats 4000000 in
set_option maxRecDepth 100000 in
theorem pfew_any (ops : List PO) (a : Option Addr) (c : Nat) (w : World) (h : OpsAt w All a ops) (hl : ops.length ≤ 9223372036854775807) :
    Calls Try.prog 18 #[.slice a ops.length c] w fun e w' => e = .returned (.bool (fewOs ops)) ∧ Below w.heap.size w w' := by
  have HO := Lib.hid h
  clear h
  go_enter Try.func18, Try.ntmps18
  go_wp2
  go_loopw [9] (fun i wr => ∃ k : Nat, k ≤ ops.length ∧ i = .int .i64 k ∧ Hid (Below w.heap.size w wr ∧ ∀ j (h : j < ops.length), j < k → fewO (ops[j]) = true)) (fun i _ => ops.length - (intOf i).toNat)
  case atStart => exact ⟨0, Nat.zero_le _, rfl, Lib.hid ⟨Below.refl _ _, fun j _ hj => by omega⟩⟩
  case round =>
    obtain ⟨k, hk, rfl, HR⟩ := hrel
    by_cases hlt : k < ops.length
    · obtain ⟨b, off, rfl, hb, hops⟩ := (HO.out.below HR.out.1).resolve_left (by intro e; rw [e] at hlt; simp at hlt)
      obtain ⟨pa, pc, oa, oc, ob, od, hin, hpl, hpt, hat⟩ := hops k hlt
      have hnext : fewO (ops[k]) = true → ∀ j (h : j < ops.length), j < k + 1 → fewO (ops[j]) = true := fun hp j h hj => by
        by_cases e : j = k
        · subst e; exact hp
        · exact HR.out.2 j h (by omega)
      have hstop : fewO (ops[k]) = false → fewOs ops = false := fun hp => by
        unfold fewOs
        rw [Bool.and_eq_false_iff]
        exact .inl (List.all_eq_false.2 ⟨_, List.getElem_mem hlt, by rw [hp]; simp⟩)
      obtain ⟨o, ho⟩ : ∃ o, o = ops[k] := ⟨_, rfl⟩
      rw [← ho] at hin hpl hpt hat hnext hstop
      obtain ⟨p0, p1, p2, p3, p4, p5, p6, p7⟩ := hin.eight
      have hkl : (k : Int) < (ops.length : Int) := by omega
      have hA : Below wr.heap.size wr (wr.alloc (.cells #[.int .i64 o.kind, .slice pa o.path.length pc, .int .i64 o.val.kind, .bool o.val.yes, .int .i64 o.val.num, .string o.val.text, .slice oa o.val.list.length oc, .slice ob o.val.fields.length od] 50)) := (Below.refl _ wr).alloc (Nat.le_refl _) _
      have hcall := few_any o.val _ _ _ (V.At.below hat hA)
      have HB1 := Lib.hid (HR.out.1.trans (hA.mono HR.out.1.size))
      have HPT := Lib.hid (PathIn.below (w := wr) (pa := pa) (p := o.path) hpt hA)
      have HBX := Lib.hid (Box.new wr 50 #[.int .i64 o.kind, .slice pa o.path.length pc, .int .i64 o.val.kind, .bool o.val.yes, .int .i64 o.val.num, .string o.val.text, .slice oa o.val.list.length oc, .slice ob o.val.fields.length od])
      have HCALL := Lib.hid hcall
      have HLT := Lib.hid hlt
      have hpm : o.path.length ≤ 9223372036854775807 := by have := hpl.1; have := hpl.2; unfold maxLen at *; omega
      by_cases h20 : o.path.length ≤ 20
      · have h20' : ¬ (20 : Int) < (o.path.length : Int) := by omega
        cases hfv : o.val.few 0 with
        | false =>
          rw [hfv] at HCALL
          have HST := Lib.hid (hstop (by unfold fewO; rw [hfv]; simp))
          clear hin hat hpl hA hcall hnext hstop ho hlt hops HR hb hpt hfv HPT HBX
          go_wp2_with fail
          refine HCALL.out.mono ?_
          rintro e w4 ⟨rfl, hb4⟩
          have HF := Lib.hid (HB1.out.trans (hb4.mono HB1.out.size))
          clear hb4
          go_wp2
          go_ret
          exact ⟨by first | (rw [HST.out]; done) | (rw [HST.out]; rfl), HF.out⟩
        | true =>
          rw [hfv] at HCALL
          have HN := Lib.hid (And.intro hnext (And.intro hstop (And.intro h20 hfv)))
          clear hin hat hpl hA hcall hnext hstop ho hlt hops HR hb hpt hfv
          go_wp2_with fail
          refine HCALL.out.mono ?_
          rintro e w4 ⟨rfl, hb4⟩
          have HF := Lib.hid (HB1.out.trans (hb4.mono HB1.out.size))
          have hbx4 : Box w4 wr.heap.size 50 #[.int .i64 o.kind, .slice pa o.path.length pc, .int .i64 o.val.kind, .bool o.val.yes, .int .i64 o.val.num, .string o.val.text, .slice oa o.val.list.length oc, .slice ob o.val.fields.length od] := (hb4.block _ HBX.out.lt).trans HBX.out
          obtain ⟨q0, q1, q2, q3, q4, q5, q6, q7⟩ := hbx4.eight
          have HP4 := Lib.hid (PathIn.below HPT.out hb4)
          clear hb4 hbx4 HPT HBX HCALL p0 p1 p2 p3 p4 p5 p6 p7
          go_wp2_with fail
          go_loopw [26] (fun i wx => ∃ j : Nat, j ≤ o.path.length ∧ i = .int .i64 j ∧ wx = w4 ∧ Hid (∀ i (h : i < o.path.length), i < j → (o.path[i]).size ≤ 40)) (fun i _ => o.path.length - (intOf i).toNat)
          case atStart => exact ⟨0, Nat.zero_le _, rfl, rfl, Lib.hid fun i _ hi => by omega⟩
          case round =>
            obtain ⟨j, hj, rfl, hwx, HI⟩ := hrel
            obtain rfl := hwx
            by_cases hjl : j < o.path.length
            · have hjl' : (j : Int) < (o.path.length : Int) := by omega
              obtain ⟨pb, poff, epa, hst⟩ := HP4.out.resolve_left (by intro e; rw [e] at hjl; simp at hjl)
              subst epa
              have hc := hst.2 j hjl
              have hpb := hst.1
              have hnx : (o.path[j]).size ≤ 40 → ∀ i (h : i < o.path.length), i < j + 1 → (o.path[i]).size ≤ 40 := fun hp i h hi => by
                by_cases e : i = j
                · subst e; exact hp
                · exact HI.out i h (by omega)
              have hsx : ¬ (o.path[j]).size ≤ 40 → fewO o = false := fun hp => by
                unfold fewO fewP
                have : (o.path.all fun s => decide (s.size ≤ 40)) = false := List.all_eq_false.2 ⟨_, List.getElem_mem hjl, by simpa using hp⟩
                rw [this]
                simp
              obtain ⟨sx, hsx0⟩ : ∃ s, s = o.path[j] := ⟨_, rfl⟩
              rw [← hsx0] at hc hnx hsx
              have HJL := Lib.hid hjl
              by_cases h40 : sx.size ≤ 40
              · have h40' : ¬ (40 : Int) < (sx.size : Int) := by omega
                have HX := Lib.hid (hnx h40)
                clear hst hnx hsx hsx0 hjl h40 HI
                go_wp2
                go_roundw
                case rel => exact ⟨j + 1, HJL.out, by have := HJL.out; go_num, (by trivial), HX⟩
                case measure => have := HJL.out; simp [intOf]; omega
              · have h40' : (40 : Int) < (sx.size : Int) := by omega
                have HX := Lib.hid (HN.out.2.1 (hsx h40))
                clear hst hnx hsx hsx0 hjl h40 HI
                go_wp2
                try rw [Exit.noGoto_ret]
                go_ret
                exact ⟨by first | (rw [HX.out]; done) | (rw [HX.out]; rfl), HF.out⟩
            · obtain rfl : j = o.path.length := by omega
              have hge : ¬ (o.path.length : Int) < (o.path.length : Int) := by omega
              have HX : Hid (Below w.heap.size w _ ∧ ∀ j (h : j < ops.length), j < k + 1 → fewO (ops[j]) = true) := Lib.hid ⟨HF.out, HN.out.1 (by
                unfold fewO
                have : fewP o.path = true := List.all_eq_true.2 fun s hs => by
                  obtain ⟨i, hi, rfl⟩ := List.getElem_of_mem hs
                  exact decide_eq_true (HI.out i hi hi)
                rw [this, HN.out.2.2.2, decide_eq_true HN.out.2.2.1]
                rfl)⟩
              clear hjl HI
              go_wp2
              go_roundw
              case rel => exact ⟨k + 1, HLT.out, by have := HLT.out; go_num, HX⟩
              case measure => have := HLT.out; simp [intOf]; omega
      · have h20' : (20 : Int) < (o.path.length : Int) := by omega
        have HST := Lib.hid (hstop (by unfold fewO; rw [decide_eq_false h20]; rfl))
        clear hin hat hpl hA hcall hnext hstop ho hlt hops HR hb hpt HPT HBX HCALL
        go_wp2
        go_ret
        exact ⟨by first | (rw [HST.out]; done) | (rw [HST.out]; rfl), HB1.out⟩
    · obtain rfl : k = ops.length := by omega
      have hge : ¬ (ops.length : Int) < (ops.length : Int) := by omega
      have hall : ops.all fewO = true := List.all_eq_true.2 fun x hx => by
        obtain ⟨j, hj, rfl⟩ := List.getElem_of_mem hx
        exact HR.out.2 j hj hj
      have hz : fewOs ops = decide ((ops.length : Int) ≤ 60) := by
        unfold fewOs
        rw [hall, Bool.true_and]
        by_cases h : ops.length ≤ 60
        · rw [decide_eq_true h, decide_eq_true (by omega)]
        · rw [decide_eq_false h, decide_eq_false (by omega)]
      have HZ := Lib.hid hz
      clear hlt hz hall
      go_wp2
      go_ret
      exact ⟨by first | (rw [HZ.out]; done) | (rw [HZ.out]; rfl), HR.out.1⟩

end Go.Proofs.Ytljhcnlifdmacaa
end

section
namespace Go.Proofs.Ytljhcnlifdmacaa
open Go.RowKit

theorem rightO_no {kk : Int} {p : List ByteArray} {v : V} (h : ¬ (1 ≤ kk ∧ kk ≤ 3 ∧ 1 ≤ p.length ∧ p.length ≤ 16)) : rightO ⟨kk, p, v⟩ = false := by
  cases hr : rightO ⟨kk, p, v⟩ with
  | false => rfl
  | true =>
    exfalso
    unfold rightO fitsO at hr
    simp only [Bool.and_eq_true, decide_eq_true_eq] at hr
    obtain ⟨h1, h2, h3, _⟩ := hr
    refine h ?_
    split at h3
    · exact ⟨by omega, by omega, h1, h2⟩
    · split at h3
      · exact ⟨by omega, by omega, h1, h2⟩
      · split at h3
        · exact ⟨by omega, by omega, h1, h2⟩
        · cases h3

theorem rightO_in {kk : Int} {p : List ByteArray} {v : V} (h1 : 1 ≤ p.length) (h2 : p.length ≤ 16) : rightO ⟨kk, p, v⟩ = (fitsO ⟨kk, p, v⟩ && v.right 32) := by
  unfold rightO
  rw [decide_eq_true h1, decide_eq_true h2]
  rfl

set_option maxHeartbeats 4000000 in
set_option maxRecDepth 100000 in
theorem lr_any (kk : Int) (p : List ByteArray) (v : V) (pa : Option Addr) (pc : Nat) (oa : Option Addr) (oc : Nat) (ob : Option Addr) (od : Nat) (w : World) (ho : v.Is w (.slice oa v.list.length oc) (.slice ob v.fields.length od)) (hpl : p.length ≤ maxLen) :
    Calls Try.prog 23 #[.agg #[.int .i64 kk, .slice pa p.length pc, .int .i64 v.kind, .bool v.yes, .int .i64 v.num, .string v.text, .slice oa v.list.length oc, .slice ob v.fields.length od]] w fun e w' => e = .returned (.bool (rightO ⟨kk, p, v⟩)) ∧ Below w.heap.size w w' := by
  have hA : Below w.heap.size w (w.alloc (.cells #[.int .i64 kk, .slice pa p.length pc, .int .i64 v.kind, .bool v.yes, .int .i64 v.num, .string v.text, .slice oa v.list.length oc, .slice ob v.fields.length od] 50)) := (Below.refl _ w).alloc (Nat.le_refl _) _
  have HB := Lib.hid hA
  have HO := Lib.hid (V.Is.below ho hA)
  have hbx := Box.new w 50 #[.int .i64 kk, .slice pa p.length pc, .int .i64 v.kind, .bool v.yes, .int .i64 v.num, .string v.text, .slice oa v.list.length oc, .slice ob v.fields.length od]
  have HBX := Lib.hid hbx
  have hno := rightO_no (kk := kk) (p := p) (v := v)
  have hyes := rightO_in (kk := kk) (p := p) (v := v)
  obtain ⟨rr, hrr⟩ : ∃ r, r = rightO ⟨kk, p, v⟩ := ⟨_, rfl⟩
  rw [← hrr] at hno hyes ⊢
  obtain ⟨L, hL⟩ : ∃ L, L = p.length := ⟨_, rfl⟩
  rw [← hL] at hpl hno hyes HB HO HBX ⊢
  unfold maxLen at hpl
  have HNO := Lib.hid hno
  have HYES := Lib.hid hyes
  clear ho hA hbx hno hyes hrr hL
  by_cases h1 : 1 ≤ kk
  · by_cases h3 : kk ≤ 3
    · by_cases h4 : 1 ≤ L
      · have h4' : (1 : Int) ≤ (L : Int) := by omega
        by_cases h5 : L ≤ 16
        · have h5' : (L : Int) ≤ 16 := by omega
          have hr := right_any v _ _ _ HO.out
          have hy := HYES.out h4 h5
          cases hvr : v.right 32 with
          | false =>
            rw [hvr] at hr hy
            rw [Bool.and_false] at hy
            subst hy
            have HR := Lib.hid hr
            clear hr hvr h4 h5 HNO HYES
            go_enter Try.func23, Try.ntmps23
            go_wp2_with fail
            refine HR.out.mono ?_
            rintro e w1 ⟨rfl, hb1⟩
            have HF := Lib.hid (HB.out.trans (hb1.mono HB.out.size))
            clear hb1
            go_wp2
            go_ret
            exact ⟨rfl, HF.out⟩
          | true =>
            rw [hvr] at hr hy
            rw [Bool.and_true] at hy
            have HR := Lib.hid hr
            clear hr hvr h4 h5 HNO HYES
            obtain rfl | rfl | rfl : kk = 1 ∨ kk = 2 ∨ kk = 3 := by omega
            · replace hy : rr = true := hy
              subst hy
              go_enter Try.func23, Try.ntmps23
              go_wp2_with fail
              refine HR.out.mono ?_
              rintro e w1 ⟨rfl, hb1⟩
              obtain ⟨o0, o1, o2, o3, o4, o5, o6, o7⟩ := Box.eight (show Box w1 w.heap.size 50 #[.int .i64 1, .slice pa L pc, .int .i64 v.kind, .bool v.yes, .int .i64 v.num, .string v.text, .slice oa v.list.length oc, .slice ob v.fields.length od] from (hb1.block _ HBX.out.lt).trans HBX.out)
              have hwl : w.heap.size < w1.heap.size := Nat.lt_of_lt_of_le HBX.out.lt hb1.size
              have HF := Lib.hid (HB.out.trans (hb1.mono HB.out.size))
              clear hb1
              go_wp2
              go_ret
              exact ⟨rfl, HF.out⟩
            · replace hy : rr = (v.kind == 0) := hy
              have HY := Lib.hid hy
              clear hy
              go_enter Try.func23, Try.ntmps23
              go_wp2_with fail
              refine HR.out.mono ?_
              rintro e w1 ⟨rfl, hb1⟩
              obtain ⟨o0, o1, o2, o3, o4, o5, o6, o7⟩ := Box.eight (show Box w1 w.heap.size 50 #[.int .i64 2, .slice pa L pc, .int .i64 v.kind, .bool v.yes, .int .i64 v.num, .string v.text, .slice oa v.list.length oc, .slice ob v.fields.length od] from (hb1.block _ HBX.out.lt).trans HBX.out)
              have hwl : w.heap.size < w1.heap.size := Nat.lt_of_lt_of_le HBX.out.lt hb1.size
              have HF := Lib.hid (HB.out.trans (hb1.mono HB.out.size))
              clear hb1
              go_wp2
              all_goals
                go_ret
                exact ⟨by rw [HY.out]; first | rfl | (have h9 : v.kind = 2 := by assumption; rw [h9]; rfl) | (have h9 : ¬ v.kind = 2 := by assumption; rw [show (v.kind == 2) = false by simpa using h9]; rfl), HF.out⟩
            · replace hy : rr = (v.kind == 2) := hy
              have HY := Lib.hid hy
              have hk2 : v.kind = 2 ∨ ¬ v.kind = 2 := by omega
              clear hy
              generalize v.kind = vk at HR HB HBX HO HY hk2 ⊢
              rcases hk2 with rfl | hk2
              · go_enter Try.func23, Try.ntmps23
                go_wp2_with fail
                refine HR.out.mono ?_
                rintro e w1 ⟨rfl, hb1⟩
                obtain ⟨o0, o1, o2, o3, o4, o5, o6, o7⟩ := Box.eight (show Box w1 w.heap.size 50 #[.int .i64 3, .slice pa L pc, .int .i64 2, .bool v.yes, .int .i64 v.num, .string v.text, .slice oa v.list.length oc, .slice ob v.fields.length od] from (hb1.block _ HBX.out.lt).trans HBX.out)
                have hwl : w.heap.size < w1.heap.size := Nat.lt_of_lt_of_le HBX.out.lt hb1.size
                have HF := Lib.hid (HB.out.trans (hb1.mono HB.out.size))
                clear hb1
                go_wp2
                go_ret
                exact ⟨by rw [HY.out]; rfl, HF.out⟩
              · go_enter Try.func23, Try.ntmps23
                go_wp2_with fail
                refine HR.out.mono ?_
                rintro e w1 ⟨rfl, hb1⟩
                obtain ⟨o0, o1, o2, o3, o4, o5, o6, o7⟩ := Box.eight (show Box w1 w.heap.size 50 #[.int .i64 3, .slice pa L pc, .int .i64 vk, .bool v.yes, .int .i64 v.num, .string v.text, .slice oa v.list.length oc, .slice ob v.fields.length od] from (hb1.block _ HBX.out.lt).trans HBX.out)
                have hwl : w.heap.size < w1.heap.size := Nat.lt_of_lt_of_le HBX.out.lt hb1.size
                have HF := Lib.hid (HB.out.trans (hb1.mono HB.out.size))
                clear hb1
                go_wp2
                go_ret
                exact ⟨by rw [HY.out, show (vk == 2) = false by simpa using hk2]; rfl, HF.out⟩
        · have hz : rr = false := HNO.out (by omega)
          subst hz
          have h5' : ¬ (L : Int) ≤ 16 := by omega
          clear HNO HYES
          go_enter Try.func23, Try.ntmps23
          go_wp2
          go_ret
          exact ⟨rfl, HB.out⟩
      · have hz : rr = false := HNO.out (by omega)
        subst hz
        have h4' : ¬ (1 : Int) ≤ (L : Int) := by omega
        clear HNO HYES
        go_enter Try.func23, Try.ntmps23
        go_wp2
        go_ret
        exact ⟨rfl, HB.out⟩
    · have hz : rr = false := HNO.out (by omega)
      subst hz
      clear HNO HYES
      go_enter Try.func23, Try.ntmps23
      go_wp2
      go_ret
      exact ⟨rfl, HB.out⟩
  · have hz : rr = false := HNO.out (by omega)
    subst hz
    clear HNO HYES
    go_enter Try.func23, Try.ntmps23
    go_wp2
    go_ret
    exact ⟨rfl, HB.out⟩

end Go.Proofs.Ytljhcnlifdmacaa
end

section
namespace Go.Proofs.Ytljhcnlifdmacaa
open Go.ChangeShapes Go.WideShapes Go.ChangeAt Go.RowKit Go.Deep Go.Joins

/-- What a walk is told of an operation that came in. -/
def OpCame (W : World) (o : PO) (pa : Option Addr) (pc : Nat) (oa : Option Addr) (oc : Nat) (ob : Option Addr) (od : Nat) : Prop :=
  (o.path.length ≤ pc ∧ pc ≤ maxLen) ∧ PathIn W pa o.path ∧ o.val.Is W (.slice oa o.val.list.length oc) (.slice ob o.val.fields.length od) ∧ o.val.n64

theorem OpCame.below {w w' : World} {o : PO} {pa : Option Addr} {pc : Nat} {oa : Option Addr} {oc : Nat} {ob : Option Addr} {od : Nat} (h : OpCame w o pa pc oa oc ob od) (hb : Below w.heap.size w w') : OpCame w' o pa pc oa oc ob od :=
  ⟨h.1, h.2.1.below hb, h.2.2.1.below hb, h.2.2.2⟩

theorem cellsOp : Try.prog.cellsOf 50 = 8 := by kernel_rfl

set_option maxRecDepth 100000 in
theorem op_of {H : Type} {enc : TypeId × Value → H} {W : World} {base : Nat} {held : Bool} {n : Nat} {cs : List Value} {x : DataW H × List MemPlace}
    (h : DataW.trod enc Try.prog W base (fun _ => true) held n 50 cs = some x) : ∃ (o : PO) (pa : Option Addr) (pc : Nat) (oa : Option Addr) (oc : Nat) (ob : Option Addr) (od : Nat),
      cs = [.int .i64 o.kind, .slice pa o.path.length pc, .int .i64 o.val.kind, .bool o.val.yes, .int .i64 o.val.num, .string o.val.text, .slice oa o.val.list.length oc, .slice ob o.val.fields.length od] ∧ OpCame W o pa pc oa oc ob od := by
  obtain ⟨y0, y1, y2, m, _, hl, h0, h1, h2⟩ := trod_struct3 Try.underlying50 h
  rw [cellsOp] at hl
  match cs, hl with
  | [c0, c1, c2, c3, c4, c5, c6, c7], _ =>
    have h0 : DataW.trod enc Try.prog W base (fun _ => true) held m 47 ([c0, c1, c2, c3, c4, c5, c6, c7].take (Try.prog.cellsOf 47)) = some y0 := h0
    rw [show Try.prog.cellsOf 47 = 1 by kernel_rfl] at h0
    obtain ⟨k, e0, _, _⟩ := DataW.trod_int Try.underlying47 (show DataW.trod enc Try.prog W base (fun _ => true) held m 47 [c0] = some y0 from h0)
    have h1 : DataW.trod enc Try.prog W base (fun _ => true) held m 48 ([c1, c2, c3, c4, c5, c6, c7].take (Try.prog.cellsOf 48)) = some y1 := h1
    rw [show Try.prog.cellsOf 48 = 1 by kernel_rfl] at h1
    have h1 : DataW.trod enc Try.prog W base (fun _ => true) held m 48 [c1] = some y1 := h1
    have h2 : DataW.trod enc Try.prog W base (fun _ => true) held m 26 ([c2, c3, c4, c5, c6, c7].take (Try.prog.cellsOf 26)) = some y2 := h2
    rw [cellsVal] at h2
    obtain ⟨v, lv, fv, q1, q2, q3, _⟩ := val_came (show DataW.trod enc Try.prog W base (fun _ => true) held m 26 [c2, c3, c4, c5, c6, c7] = some y2 from h2)
    obtain ⟨⟨oa, oc, rfl⟩, ⟨ob, od, rfl⟩, _, _⟩ := V.Is.len q2
    obtain ⟨a, len, cap, rfl⟩ : ∃ a len cap, c1 = .slice a len cap := by
      rcases open_strings Try.underlying48 Try.underlying9 (by kernel_rfl) h1 with ⟨hcs, _⟩ | ⟨x, l, c, ss, hcs, _⟩
      · exact ⟨none, 0, 0, by simpa using hcs⟩
      · exact ⟨_, _, _, by simpa using hcs⟩
    obtain ⟨ps, hrow, hpl, hc1, hc2, _, _⟩ := tRow.came_of (d := y1.1) (pl := y1.2) ⟨m, h1⟩
    subst hpl
    have e0 : c0 = .int .i64 k := by
      have : [c0] = [.int .i64 k] := e0
      simpa using this
    refine ⟨⟨k, ps, v⟩, a, cap, oa, oc, ob, od, ?_, ⟨hc1, hc2⟩, hrow, q2, q3⟩
    rw [e0]
    exact congrArg (fun r => Value.int .i64 k :: Value.slice a ps.length cap :: r) q1

theorem op_arg {H : Type} {enc : TypeId × Value → H} {W : World} {base : Nat} {held : Bool} {v : Value} {d : DataW H} {ps : List MemPlace}
    (h : DataW.Trod enc Try.prog W base (fun _ => true) held 50 v d ps) : ∃ (o : PO) (pa : Option Addr) (pc : Nat) (oa : Option Addr) (oc : Nat) (ob : Option Addr) (od : Nat),
      v = .agg #[.int .i64 o.kind, .slice pa o.path.length pc, .int .i64 o.val.kind, .bool o.val.yes, .int .i64 o.val.num, .string o.val.text, .slice oa o.val.list.length oc, .slice ob o.val.fields.length od] ∧ OpCame W o pa pc oa oc ob od := by
  obtain ⟨fuel, hf⟩ := h
  obtain ⟨o, pa, pc, oa, oc, ob, od, hc, hcame⟩ := op_of hf
  refine ⟨o, pa, pc, oa, oc, ob, od, ?_, hcame⟩
  cases v with
  | agg cs =>
    have hc : cs.toList = [.int .i64 o.kind, .slice pa o.path.length pc, .int .i64 o.val.kind, .bool o.val.yes, .int .i64 o.val.num, .string o.val.text, .slice oa o.val.list.length oc, .slice ob o.val.fields.length od] := by simpa [Value.cells] using hc
    rw [show cs = ([.int .i64 o.kind, .slice pa o.path.length pc, .int .i64 o.val.kind, .bool o.val.yes, .int .i64 o.val.num, .string o.val.text, .slice oa o.val.list.length oc, .slice ob o.val.fields.length od] : List Value).toArray by rw [← hc]]
  | _ => simp [Value.cells] at hc

end Go.Proofs.Ytljhcnlifdmacaa
end

section
namespace Go.Proofs.Ytljhcnlifdmacaa.patchOrders

theorem get_app (a b : List Fd) (n : ByteArray) : getF (a ++ b) n = (getF a n).or (getF b n) := by
  induction a with
  | nil => rfl
  | cons p l ih =>
    rw [List.cons_append, getF, getF]
    by_cases h : p.1 = n
    · rw [if_pos h, if_pos h]; rfl
    · rw [if_neg h, if_neg h, ih]

theorem get_mem {f : List Fd} {n : ByteArray} {x : V} (h : getF f n = some x) : (n, x) ∈ f := by
  induction f with
  | nil => cases h
  | cons p l ih =>
    rw [getF] at h
    by_cases e : p.1 = n
    · rw [if_pos e] at h
      injection h with h
      rw [← e, ← h]
      exact List.mem_cons_self
    · rw [if_neg e] at h
      exact List.mem_cons_of_mem _ (ih h)

theorem get_none_ne {f : List Fd} {n : ByteArray} (hn : getF f n = none) : ∀ p ∈ f, p.1 ≠ n := by
  induction f with
  | nil => intro p hp; cases hp
  | cons q l ih =>
    rw [getF] at hn
    by_cases eq : q.1 = n
    · rw [if_pos eq] at hn; cases hn
    · rw [if_neg eq] at hn
      intro p hp
      rcases List.mem_cons.1 hp with rfl | hp
      · exact eq
      · exact ih hn p hp

theorem ahead {f : List Fd} {n : ByteArray} (h : RiseP f) : ∀ p ∈ f.take (atF f n), p.1.data.toList < n.data.toList := fun p hp => by
  obtain ⟨i, hi, rfl⟩ := List.getElem_of_mem hp
  rw [List.length_take] at hi
  rw [List.getElem_take]
  exact (atF_lt h i (by omega)).2 (by omega)

theorem put_get_none {f : List Fd} {n : ByteArray} (h : RiseP f) : getF (putV f n none) n = none := by
  cases hg : getF (putV f n none) n with
  | none => rfl
  | some x =>
    exfalso
    have hm := get_mem hg
    unfold putV at hm
    simp only [List.nil_append] at hm
    rcases List.mem_append.1 hm with hm | hm
    · exact List.lt_irrefl _ (ahead h _ hm)
    · obtain ⟨i, hi, e⟩ := List.getElem_of_mem hm
      rw [List.length_drop] at hi
      rw [List.getElem_drop] at e
      have hlt := atF_lt (n := n) h
      by_cases hf : isF f n = true
      · obtain ⟨h1, h2, _⟩ := isF_true h hf
        simp only [hf, if_true] at e hi
        have h3 := List.pairwise_iff_getElem.1 h (atF f n) (atF f n + 1 + i) h1 (by omega) (by omega)
        rw [h2, e] at h3
        exact List.lt_irrefl _ h3
      · have hn : getF f n = none := by
          unfold isF at hf
          cases hx : getF f n with
          | none => rfl
          | some y => rw [hx] at hf; exact absurd rfl hf
        exact get_none_ne hn _ (List.mem_of_mem_drop hm) rfl

theorem put_get {f : List Fd} {n m : ByteArray} {o : Option V} (h : RiseP f) : getF (putV f n o) m = if m = n then o else getF f m := by
  by_cases e : m = n
  · subst e
    rw [if_pos rfl]
    cases o with
    | none => exact put_get_none h
    | some x => exact get_put h
  · rw [if_neg e]
    have hmid : ∀ r : List Fd, getF (putV f n o) m = (getF (f.take (atF f n)) m).or (getF (f.drop (atF f n + if isF f n then 1 else 0)) m) := fun _ => by
      unfold putV
      rw [get_app]
      cases o with
      | none => rfl
      | some x =>
        simp only [List.cons_append, List.nil_append]
        rw [getF, if_neg (fun h => e h.symm)]
    have hsplit : getF f m = (getF (f.take (atF f n)) m).or (getF (f.drop (atF f n)) m) := by
      rw [← get_app, List.take_append_drop]
    rw [hmid [], hsplit]
    by_cases hf : isF f n = true
    · obtain ⟨h1, h2, _⟩ := isF_true h hf
      simp only [hf, if_true]
      rw [List.drop_eq_getElem_cons h1, getF, if_neg (by rw [h2]; exact fun h => e h.symm)]
    · have hf : isF f n = false := by simpa using hf
      rw [hf]
      rfl

theorem rise_ext : ∀ {f g : List Fd}, RiseP f → RiseP g → (∀ n, getF f n = getF g n) → f = g
  | [], [], _, _, _ => rfl
  | [], q :: g, _, _, h => by
    have := h q.1
    rw [getF, getF, if_pos rfl] at this
    cases this
  | p :: f, [], _, _, h => by
    have := h p.1
    rw [getF, getF, if_pos rfl] at this
    cases this
  | p :: f, q :: g, hf, hg, h => by
    have hf2 := List.pairwise_cons.1 hf
    have hg2 := List.pairwise_cons.1 hg
    have none_of : ∀ {x : Fd} {l : List Fd}, (∀ y ∈ l, x.1.data.toList < y.1.data.toList) → getF l x.1 = none := fun {x l} hx => getF_no fun y hy e => by
      have := hx y hy
      rw [e] at this
      exact List.lt_irrefl _ this
    have hname : p.1 = q.1 := by
      rcases nm_tri p.1 q.1 with h1 | h1 | h1
      · exfalso
        have h2 := h p.1
        rw [getF, if_pos rfl, getF, if_neg (fun e => by rw [e] at h1; exact List.lt_irrefl _ h1), none_of fun y hy => List.lt_trans h1 (hg2.1 y hy)] at h2
        cases h2
      · exact h1
      · exfalso
        have h2 := h q.1
        rw [getF, if_neg (fun e => by rw [e] at h1; exact List.lt_irrefl _ h1), none_of (fun y hy => List.lt_trans h1 (hf2.1 y hy)), getF, if_pos rfl] at h2
        cases h2
    have hval : p.2 = q.2 := by
      have h2 := h p.1
      rw [getF, if_pos rfl, getF, if_pos hname.symm] at h2
      exact Option.some.inj h2
    have hpq : p = q := Prod.ext hname hval
    subst hpq
    rw [rise_ext hf2.2 hg2.2 fun n => ?_]
    have h2 := h n
    by_cases e : p.1 = n
    · rw [← e, none_of hf2.1, none_of hg2.1]
    · rw [getF, if_neg e, getF, if_neg e] at h2
      exact h2

theorem put_comm {f : List Fd} {n m : ByteArray} {y z : Option V} (h : RiseP f) (hne : n ≠ m) : putV (putV f n y) m z = putV (putV f m z) n y := by
  refine rise_ext (putV_rise (putV_rise h)) (putV_rise (putV_rise h)) fun k => ?_
  rw [put_get (putV_rise h), put_get h, put_get (putV_rise h), put_get h]
  by_cases h1 : k = m
  · subst h1
    rw [if_pos rfl, if_neg (fun e => hne e.symm), if_pos rfl]
  · rw [if_neg h1, if_neg h1]

/-- what becomes of the field -/
def stepV (o : PO) : List ByteArray → Option V → Except Int (Option V)
  | [], g => lastV o (g.getD V.null) g.isSome
  | m :: r, g => (alongV o (m :: r) (g.getD V.null)).map some

theorem along_step (o : PO) (n : ByteArray) (r : List ByteArray) (v : V) : alongV o (n :: r) v = if v.kind ≠ 5 then .error 5 else (stepV o r (getF v.fields n)).map fun y => v.setF (putV v.fields n y) := by
  cases r with
  | nil => rfl
  | cons m r =>
    rw [alongV]
    by_cases hk : v.kind ≠ 5
    · rw [if_pos hk, if_pos hk]
    · rw [if_neg hk, if_neg hk]
      show (alongV o (m :: r) (valF v.fields n)).map _ = ((alongV o (m :: r) (valF v.fields n)).map some).map _
      cases alongV o (m :: r) (valF v.fields n) <;> rfl

/-- both orders come to the same -/
theorem run_two {v : V} {a b : PO} {n m : ByteArray} {ra rb : List ByteArray} (ha : a.path = n :: ra) (hb : b.path = m :: rb) (hne : n ≠ m) (h : RiseP v.fields) :
    (∃ y, runV [a, b] v = .ok y ∧ runV [b, a] v = .ok y) ∨ ((∃ c, runV [a, b] v = .error c) ∧ ∃ c, runV [b, a] v = .error c) := by
  by_cases hk : v.kind ≠ 5
  · refine .inr ⟨⟨5, ?_⟩, ⟨5, ?_⟩⟩
    · rw [runV, ha, along_step, if_pos hk]
    · rw [runV, hb, along_step, if_pos hk]
  · have hA : ∀ (o : PO) (n : ByteArray) (r : List ByteArray) (f : List Fd), o.path = n :: r → alongV o o.path (v.setF f) = (stepV o r (getF f n)).map fun y => v.setF (putV f n y) := fun o n r f ho => by
      rw [ho, along_step, if_neg (show ¬ (v.setF f).kind ≠ 5 from hk)]
      rfl
    have hv : v = v.setF v.fields := by cases v; rfl
    have hone : ∀ (o : PO) (n : ByteArray) (r : List ByteArray) (f : List Fd), o.path = n :: r → runV [o] (v.setF f) = (stepV o r (getF f n)).map fun y => v.setF (putV f n y) := fun o n r f ho => by
      rw [runV, hA o n r f ho]
      cases stepV o r (getF f n) <;> rfl
    have htwo : ∀ (o p : PO) (n m : ByteArray) (r s : List ByteArray), o.path = n :: r → p.path = m :: s → n ≠ m → runV [o, p] v = match stepV o r (getF v.fields n) with
        | .error c => .error c
        | .ok y => (stepV p s (getF v.fields m)).map fun z => v.setF (putV (putV v.fields n y) m z) := fun o p n m r s ho hp hnm => by
      rw [runV]
      conv => lhs; rw [hv]
      rw [hA o n r _ ho]
      cases hs : stepV o r (getF v.fields n) with
      | error c => rfl
      | ok y =>
        show runV [p] (v.setF (putV v.fields n y)) = _
        rw [hone p m s _ hp, put_get h, if_neg (fun e => hnm e.symm)]
    rw [htwo a b n m ra rb ha hb hne, htwo b a m n rb ra hb ha (fun e => hne e.symm)]
    cases h1 : stepV a ra (getF v.fields n) with
    | error c =>
      refine .inr ⟨⟨c, rfl⟩, ?_⟩
      cases h2 : stepV b rb (getF v.fields m) with
      | error c => exact ⟨c, rfl⟩
      | ok z => exact ⟨c, rfl⟩
    | ok y =>
      cases h2 : stepV b rb (getF v.fields m) with
      | error c => exact .inr ⟨⟨c, rfl⟩, ⟨c, rfl⟩⟩
      | ok z =>
        refine .inl ⟨_, rfl, ?_⟩
        show Except.ok (v.setF (putV (putV v.fields m z) n y)) = Except.ok (v.setF (putV (putV v.fields n y) m z))
        rw [put_comm h hne]

theorem apply_two {v : V} {a b : PO} {n m : ByteArray} {ra rb : List ByteArray} (ha : a.path = n :: ra) (hb : b.path = m :: rb) (hne : n ≠ m) (h : RiseP v.fields) (hra : rightO a = true) (hrb : rightO b = true) :
    (∃ y, applyV v [a, b] = .ok y ∧ applyV v [b, a] = .ok y) ∨ ((∃ c, applyV v [a, b] = .error c) ∧ ∃ c, applyV v [b, a] = .error c) := by
  have h1 : checkV [a, b] = 0 := check_zero (by simp) fun o ho => by
    rcases List.mem_cons.1 ho with rfl | ho
    · exact hra
    · rw [show o = b by simpa using ho]; exact hrb
  have h2 : checkV [b, a] = 0 := check_zero (by simp) fun o ho => by
    rcases List.mem_cons.1 ho with rfl | ho
    · exact hrb
    · rw [show o = a by simpa using ho]; exact hra
  unfold applyV
  rw [h1, h2, if_neg (by simp), if_neg (by simp)]
  rcases run_two ha hb hne h with ⟨y, e1, e2⟩ | ⟨⟨c1, e1⟩, ⟨c2, e2⟩⟩
  · rw [e1, e2]
    by_cases hr : y.right 32 = true
    · exact .inl ⟨y, by simp only [hr, if_true], by simp only [hr, if_true]⟩
    · exact .inr ⟨⟨3, by simp only [hr]; rfl⟩, ⟨3, by simp only [hr]; rfl⟩⟩
  · rw [e1, e2]
    exact .inr ⟨⟨c1, rfl⟩, ⟨c2, rfl⟩⟩

end Go.Proofs.Ytljhcnlifdmacaa.patchOrders
end
