/-
  chain: a version, a row of versions in memory, and the contracts of follows, Last.
  chain: what the calls of a chain want, but Right (cut out of ChR for seats without Right).
  chain: sort.Search at the chain's closure, upTo, At.
  chain: At, Put.
-/
import Derived.WalkKit
import Derived.IntWalk
import Derived.Lib.Hide
import Derived.Deep.QuietTactic
import Derived.BigQuiet
import Derived.Test.YtcebnoapgceodaaProg
import Derived.RegionTactic
import Derived.Deep.RegionHeld3
import Derived.Below
import Derived.Test.YtcebnoapgceodaaOwn
import Derived.ArgAppend
section
namespace Go.Proofs.Ytcebnoapgceodaa
open Go.RowKit

structure Ver where
  seq : Int
  val : ByteArray
  gone : Bool

instance : Inhabited Ver := ⟨⟨0, ⟨#[]⟩, false⟩⟩

/-- what follows 'last' -/
def Ver.folB (v : Ver) (last : Int) : Bool := decide (last < v.seq) && decide (0 ≤ v.seq) && decide (v.seq ≤ 1099511627776) && !(v.gone && !v.val.toList.isEmpty)

def Ver.agg (v : Ver) : Value := .agg #[.int .i64 v.seq, .string v.val, .bool v.gone]

theorem agg_eq (v : Ver) : v.agg = .agg #[.int .i64 v.seq, .string v.val, .bool v.gone] := rfl

/-- a version in three cells -/
def VerIn (w : World) (b o : Nat) (v : Ver) : Prop :=
  w.cell? ⟨b, o, none⟩ = some (.int .i64 v.seq) ∧ w.cell? ⟨b, o + 1, none⟩ = some (.string v.val) ∧ w.cell? ⟨b, o + 2, none⟩ = some (.bool v.gone)

/-- a row of versions: none, or in block b from 'off' on -/
def VersAt (w : World) (b off : Nat) (vs : List Ver) : Prop := ∀ i (h : i < vs.length), VerIn w b (off + i * 3) (vs[i])

/-- What a walk is told of a chain. -/
def ChIs (w : World) (a : Option Addr) (vs : List Ver) : Prop :=
  vs.length ≤ 9223372036854775807 ∧ (vs = [] ∨ ∃ b off, a = some ⟨b, off, none⟩ ∧ b < w.heap.size ∧ VersAt w b off vs)

theorem VersAt.below {w w' : World} {b off : Nat} {vs : List Ver} {n : Nat} (h : VersAt w b off vs) (hb : Below n w w') (hlt : b < n) : VersAt w' b off vs :=
  fun i hi => ⟨(hb.cell (p := ⟨b, _, none⟩) hlt).trans (h i hi).1, (hb.cell (p := ⟨b, _, none⟩) hlt).trans (h i hi).2.1, (hb.cell (p := ⟨b, _, none⟩) hlt).trans (h i hi).2.2⟩

theorem ChIs.below {w w' : World} {a : Option Addr} {vs : List Ver} (h : ChIs w a vs) (hb : Below w.heap.size w w') : ChIs w' a vs := by
  obtain ⟨h1, h2⟩ := h
  refine ⟨h1, h2.imp id ?_⟩
  rintro ⟨b, off, e, hlt, hv⟩
  exact ⟨b, off, e, Nat.lt_of_lt_of_le hlt hb.size, hv.below hb hlt⟩

theorem ChIs.take {w : World} {a : Option Addr} {vs : List Ver} (h : ChIs w a vs) (n : Nat) : ChIs w a (vs.take n) := by
  obtain ⟨h1, h2⟩ := h
  refine ⟨by rw [List.length_take]; omega, ?_⟩
  rcases h2 with rfl | ⟨b, off, e, hlt, hv⟩
  · exact .inl (by simp)
  · refine .inr ⟨b, off, e, hlt, fun i hi => ?_⟩
    have hi' : i < vs.length := by rw [List.length_take] at hi; omega
    rw [List.getElem_take]
    exact hv i hi'

def lastI (vs : List Ver) : Int := match vs.getLast? with | none => -1 | some v => v.seq

theorem lastI_nil : lastI [] = -1 := rfl
theorem lastI_some (vs : List Ver) (h : 0 < vs.length) : lastI vs = (vs[vs.length - 1]).seq := by
  unfold lastI
  rw [List.getLast?_eq_getElem?, List.getElem?_eq_getElem (by omega)]

end Go.Proofs.Ytcebnoapgceodaa
end

section
namespace Go.Proofs.Ytcebnoapgceodaa
open Go.RowKit

/-- the commits rise -/
def RightP (vs : List Ver) : Prop := ∀ i (h : i < vs.length), (vs[i]).folB (lastI (vs.take i)) = true
instance (vs : List Ver) : Decidable (RightP vs) := by unfold RightP; infer_instance
def rightC (vs : List Ver) : Bool := decide (RightP vs)

theorem below_drewN' {B : Nat} {a w : World} (h : Below B a w) (q : Nat) : Below B a (w.drewN q) := ⟨h.os, h.tape, h.output, h.size, h.block⟩

/-- three cells of a new block are kept -/
theorem new3 {wr W : World} {c0 c1 c2 : Value} {t : TypeId} (h : Below (wr.alloc (.cells #[c0, c1, c2] t)).heap.size (wr.alloc (.cells #[c0, c1, c2] t)) W) :
    W.cell? ⟨wr.heap.size, 0, none⟩ = some c0 ∧ W.cell? ⟨wr.heap.size, 1, none⟩ = some c1 ∧ W.cell? ⟨wr.heap.size, 2, none⟩ = some c2 := by
  have h0 : ∀ i : Nat, W.cell? ⟨wr.heap.size, i, none⟩ = (wr.alloc (.cells #[c0, c1, c2] t)).cell? ⟨wr.heap.size, i, none⟩ := fun i => h.cell (by show wr.heap.size < _; simp)
  refine ⟨?_, ?_, ?_⟩ <;> (rw [h0]; simp)

/-- a draw ahead of it tells nothing -/
theorem undrew {a W : World} (h : Below a.drew.heap.size a.drew W) : Below a.heap.size a W := (Below.refl _ a).drew.trans h

end Go.Proofs.Ytcebnoapgceodaa
end

section
namespace Go.Proofs.Ytcebnoapgceodaa
open Go.RowKit

/-- the closure of upTo -/
theorem upto_closure (b off c bc bs i : Nat) (vs : List Ver) (seq : Int) (w : World) (hi : i < vs.length) (hv : VersAt w b off vs)
    (h1 : w.cell? ⟨bc, 0, none⟩ = some (.slice (some ⟨b, off, none⟩) vs.length c)) (h2 : w.cell? ⟨bs, 0, none⟩ = some (.int .i64 seq)) :
    Calls Try.prog 142 #[.int .i64 i, .pointer (some ⟨bc, 0, none⟩), .pointer (some ⟨bs, 0, none⟩)] w fun e w' => e = .returned (.bool (decide (seq < (vs[i]).seq))) ∧ ∃ q, w' = w.drewN q := by
  obtain ⟨c0, _, _⟩ := hv i hi
  obtain ⟨s, hs⟩ : ∃ s, s = (vs[i]).seq := ⟨_, rfl⟩
  rw [← hs] at c0 ⊢
  clear hs hv
  have hi0 : (i : Int) < (vs.length : Int) := by omega
  go_enter Try.func142, Try.ntmps142
  go_wp2
  go_quiet (fail)
  go_wp2
  go_ret
  exact ⟨rfl, _, rfl⟩

/-- how many versions there are up to a commit, as the search finds it -/
def UpTo (vs : List Ver) (seq : Int) (r : Nat) : Prop :=
  r ≤ vs.length ∧ (∀ i (h : i < vs.length), i < r → (vs[i]).seq ≤ seq) ∧ ∀ i (h : i < vs.length), r ≤ i → seq < (vs[i]).seq

def Rise (vs : List Ver) : Prop := ∀ i j (_ : i ≤ j) (hj : j < vs.length), (vs[i]).seq ≤ (vs[j]).seq

set_option maxHeartbeats 1000000 in
theorem search_some (b off c bc bs : Nat) (vs : List Ver) (seq : Int) (w : World) (hb : b < w.heap.size) (hbc : bc < w.heap.size) (hbs : bs < w.heap.size) (hv : VersAt w b off vs) (hl : vs.length ≤ 4611686018427387900) (hr : Rise vs)
    (h1 : w.cell? ⟨bc, 0, none⟩ = some (.slice (some ⟨b, off, none⟩) vs.length c)) (h2 : w.cell? ⟨bs, 0, none⟩ = some (.int .i64 seq)) :
    Calls Try.prog 141 #[.int .i64 vs.length, .func (.func 142) #[] #[.pointer (some ⟨bc, 0, none⟩), .pointer (some ⟨bs, 0, none⟩)]] w fun e w' => (∃ r, UpTo vs seq r ∧ e = .returned (.int .i64 (r : Nat))) ∧ Below w.heap.size w w' := by
  have HC : Hid (∀ W i (hi : i < vs.length), Below w.heap.size w W → Calls Try.prog 142 #[.int .i64 i, .pointer (some ⟨bc, 0, none⟩), .pointer (some ⟨bs, 0, none⟩)] W fun e w' => e = .returned (.bool (decide (seq < (vs[i]).seq))) ∧ ∃ q, w' = W.drewN q) :=
    Lib.hid fun W i hi hB => upto_closure b off c bc bs i vs seq W hi (hv.below hB hb) ((hB.cell (p := ⟨bc, 0, none⟩) hbc).trans h1) ((hB.cell (p := ⟨bs, 0, none⟩) hbs).trans h2)
  have HR := Lib.hid hr
  clear h1 h2 hv hr hb hbc hbs
  go_enter Try.func141, Try.ntmps141
  go_wp2
  go_loopw [5, 6] (fun i j wr => ∃ lo hi : Nat, i = .int .i64 lo ∧ j = .int .i64 hi ∧ lo ≤ hi ∧ hi ≤ vs.length ∧ Below w.heap.size w wr ∧ Hid ((∀ t (h : t < vs.length), t < lo → (vs[t]).seq ≤ seq) ∧ ∀ t (h : t < vs.length), hi ≤ t → seq < (vs[t]).seq)) (fun i j _ => (intOf j).toNat - (intOf i).toNat)
  case atStart => exact ⟨0, vs.length, rfl, rfl, Nat.zero_le _, Nat.le_refl _, Below.refl _ _, Lib.hid ⟨fun t _ h => by omega, fun t h h2 => by omega⟩⟩
  case round =>
    obtain ⟨lo, hi, rfl, rfl, hlh, hin, hB, I⟩ := hrel
    by_cases hlt : lo < hi
    · have hm : (lo + hi) / 2 < vs.length := by omega
      have hc := HC.out wr ((lo + hi) / 2) hm hB
      rw [show (((lo + hi) / 2 : Nat) : Int) = ((lo : Int) + (hi : Int)) / 2 by omega] at hc
      by_cases hp : seq < (vs[(lo + hi) / 2]).seq
      · rw [decide_eq_true hp] at hc
        have I2 : Hid ((∀ t (h : t < vs.length), t < lo → (vs[t]).seq ≤ seq) ∧ ∀ t (h : t < vs.length), (lo + hi) / 2 ≤ t → seq < (vs[t]).seq) := Lib.hid ⟨I.out.1, fun t h ht => by have := HR.out ((lo + hi) / 2) t ht h; omega⟩
        have HCC := Lib.hid hc
        clear hp hc
        go_wp2_with (go_at_call 142; refine HCC.out.mono ?_; rintro e w' ⟨rfl, nq, rfl⟩)
        go_roundw
        case rel => exact ⟨lo, (lo + hi) / 2, rfl, by rw [show ((lo : Int) + (hi : Int)) / 2 = (((lo + hi) / 2 : Nat) : Int) by omega], by omega, by omega, below_drewN' hB _, I2⟩
        case measure => simp [intOf]; omega
      · rw [decide_eq_false hp] at hc
        have I2 : Hid ((∀ t (h : t < vs.length), t < (lo + hi) / 2 + 1 → (vs[t]).seq ≤ seq) ∧ ∀ t (h : t < vs.length), hi ≤ t → seq < (vs[t]).seq) := Lib.hid ⟨fun t h ht => by have := HR.out t ((lo + hi) / 2) (by omega) hm; omega, I.out.2⟩
        have HCC := Lib.hid hc
        clear hp hc
        go_wp2_with (go_at_call 142; refine HCC.out.mono ?_; rintro e w' ⟨rfl, nq, rfl⟩)
        go_roundw
        case rel => exact ⟨(lo + hi) / 2 + 1, hi, by rw [show ((lo : Int) + (hi : Int)) / 2 + 1 = (((lo + hi) / 2 + 1 : Nat) : Int) by omega], rfl, by omega, by omega, below_drewN' hB _, I2⟩
        case measure => simp [intOf]; omega
    · obtain rfl : hi = lo := by omega
      go_wp2
      go_ret
      exact ⟨⟨hi, ⟨hin, I.out⟩, rfl⟩, hB⟩

theorem search_none (cl : Value) (w : World) : 
    Calls Try.prog 141 #[.int .i64 0, cl] w fun e w' => e = .returned (.int .i64 0) ∧ w = w' := by
  go_enter Try.func141, Try.ntmps141
  go_wp2
  refine wp_loop_rounds 1 ?_
  rw [rounds_succ]
  go_wp2
  go_ret
  exact ⟨rfl, rfl⟩

def SomeUp (vs : List Ver) (seq : Int) (e : Ending) : Prop := ∃ r : Nat, UpTo vs seq r ∧ e = .returned (.int .i64 r)

theorem upto_any (a : Option Addr) (c : Nat) (vs : List Ver) (seq : Int) (w : World) (h : ChIs w a vs) (hl : vs.length ≤ 4611686018427387900) (hr : Rise vs) :
    Calls Try.prog 106 #[.slice a vs.length c, .int .i64 seq] w fun e w' => SomeUp vs seq e ∧ Below w.heap.size w w' := by
  have hb2 := ((Below.refl w.heap.size w).alloc (Nat.le_refl _) (.cells #[.slice a vs.length c] 108)).alloc (by simp) (.cells #[.int .i64 seq] 3)
  have HB := Lib.hid hb2
  rcases h.2 with rfl | ⟨b, off, rfl, hlt, hv⟩
  · go_enter Try.func106, Try.ntmps106
    go_wp2_with fail
    refine (search_none _ _).mono ?_
    rintro e w1 ⟨rfl, rfl⟩
    go_wp2
    go_ret
    exact ⟨⟨0, ⟨Nat.zero_le _, fun i h => absurd h (Nat.not_lt_zero _), fun i h => absurd h (Nat.not_lt_zero _)⟩, rfl⟩, HB.out⟩
  · have hs := search_some b off c w.heap.size (w.heap.size + 1) vs seq ((w.alloc (.cells #[.slice (some ⟨b, off, none⟩) vs.length c] 108)).alloc (.cells #[.int .i64 seq] 3)) (by simp; omega) (by simp; omega) (by simp) (hv.below hb2 hlt) hl hr (by simp) (by simp)
    have HS := Lib.hid hs
    clear hs hb2 hv hr
    go_enter Try.func106, Try.ntmps106
    go_wp2_with fail
    refine HS.out.mono ?_
    rintro e w1 ⟨⟨r, hr, rfl⟩, hb1⟩
    have HR := Lib.hid hr
    clear hr
    go_wp2
    go_ret
    exact ⟨⟨r, HR.out, rfl⟩, HB.out.trans (hb1.mono (by simp; omega))⟩

end Go.Proofs.Ytcebnoapgceodaa
end

section
namespace Go.Proofs.Ytcebnoapgceodaa
open Go.RowKit

/-- what belonged behind the first r versions -/
def atR (vs : List Ver) (r : Nat) : ByteArray × Bool := match (vs.take r).getLast? with | none => (⟨#[]⟩, false) | some v => if v.gone then (⟨#[]⟩, false) else (v.val, true)

theorem atR_zero (vs : List Ver) : atR vs 0 = (⟨#[]⟩, false) := rfl
theorem atR_at (vs : List Ver) (r : Nat) (h : r < vs.length) : atR vs (r + 1) = if (vs[r]).gone then (⟨#[]⟩, false) else ((vs[r]).val, true) := by
  unfold atR
  rw [List.take_succ_eq_append_getElem h, List.getLast?_concat]

def SomeAt (vs : List Ver) (seq : Int) (e : Ending) : Prop := ∃ r : Nat, UpTo vs seq r ∧ e = .returned (.tuple #[.string (atR vs r).1, .bool (atR vs r).2])

theorem at_any (a : Option Addr) (c : Nat) (vs : List Ver) (seq : Int) (w : World) (h : ChIs w a vs) (hl : vs.length ≤ 4611686018427387900) (hr : Rise vs) :
    Calls Try.prog 57 #[.slice a vs.length c, .int .i64 seq] w fun e w' => SomeAt vs seq e ∧ Below w.heap.size w w' := by
  have HU := Lib.hid (upto_any a c vs seq w h hl hr)
  have HH := Lib.hid h
  clear h hr
  go_enter Try.func57, Try.ntmps57
  go_wp2_with fail
  refine HU.out.mono ?_
  rintro e w1 ⟨⟨r, hr, rfl⟩, hb1⟩
  have hrl := hr.1
  have HR := Lib.hid hr
  clear hr
  cases r with
  | zero =>
    go_wp2
    refine bodyPost_ret (v := .tuple #[.string ⟨#[]⟩, .bool false]) (by simp [results, Try.results57, go_sem]) rfl ⟨⟨0, HR.out, by rw [atR_zero]⟩, hb1⟩
  | succ r =>
    obtain ⟨_, h2⟩ := HH.out.below hb1
    rcases h2 with h0 | ⟨b, off, rfl, hlt, hv⟩
    · rw [h0] at hrl; exact absurd hrl (by simp)
    · obtain ⟨c0, c1, c2⟩ := hv r (by omega)
      have HA := Lib.hid (atR_at vs r (by omega))
      obtain ⟨s, hs⟩ : ∃ s, s = vs[r] := ⟨_, rfl⟩
      rw [← hs] at c0 c1 c2 HA
      obtain ⟨sq, tx, gn⟩ := s
      simp only at c0 c1 c2
      clear hs hv
      have hz : ((r : Int) + 1 == 0) = false := by rw [beq_eq_false_iff_ne]; omega
      have hi : (r : Int) < (vs.length : Int) := by omega
      cases gn
      · go_wp2
        exact bodyPost_ret (v := .tuple #[.string tx, .bool true]) (by simp [results, Try.results57, go_sem]) rfl ⟨⟨r + 1, HR.out, by rw [HA.out]; rfl⟩, hb1⟩
      · go_wp2
        exact bodyPost_ret (v := .tuple #[.string ⟨#[]⟩, .bool false]) (by simp [results, Try.results57, go_sem]) rfl ⟨⟨r + 1, HR.out, by rw [HA.out]; rfl⟩, hb1⟩

/-- a chain of the call's own, in a new block -/
def ChNew (w w' : World) (vv : Value) (vs : List Ver) : Prop :=
  ∃ g c, vv = .slice (some ⟨g, 0, none⟩) vs.length c ∧ vs.length ≤ c ∧ c ≤ 9223372036854775807 ∧ w.heap.size ≤ g ∧ g < w'.heap.size ∧ VersAt w' g 0 vs ∧ Below w.heap.size w w'

theorem infoVer : (Try.prog.info? 187).map (fun i => (i.zero, i.size, i.bytes)) = some (some (.agg #[.int .i64 0, .string ⟨#[]⟩, .bool false]), 3, 32) := by kernel_rfl

def vcells (v : Ver) : List Value := [.int .i64 v.seq, .string v.val, .bool v.gone]
def vrow : List Ver → List Value
  | [] => []
  | v :: r => vcells v ++ vrow r

theorem vrow_len : ∀ vs : List Ver, (vrow vs).length = vs.length * 3
  | [] => rfl
  | v :: r => by rw [vrow, List.length_append, vrow_len r, List.length_cons]; simp [vcells]; omega

theorem vrow_app : ∀ (a b : List Ver), vrow (a ++ b) = vrow a ++ vrow b
  | [], _ => rfl
  | v :: r, b => by rw [List.cons_append, vrow, vrow_app r b, vrow, List.append_assoc]

theorem vrow_get : ∀ (vs : List Ver) (i : Nat) (h : i < vs.length) (j : Nat), j < 3 → (vrow vs)[i * 3 + j]? = (vcells (vs[i]))[j]?
  | v :: r, 0, _, j, hj => by
    rw [vrow, List.getElem?_append_left (by simp [vcells]; omega)]
    simp
  | v :: r, i + 1, h, j, hj => by
    rw [vrow, List.getElem?_append_right (by simp [vcells]; omega)]
    have e : (i + 1) * 3 + j - (vcells v).length = i * 3 + j := by simp [vcells]; omega
    rw [e, vrow_get r i (by simpa using h) j hj]
    simp

/-- ONE VERSION appended to a chain that has no room left -/
theorem run_app_ver (W : World) (ty : TypeId) (a : Option Addr) (vs : List Ver) (h : ChIs W a vs) (hl : vs.length ≤ 1000000) (v : Ver) (p : Nat) (m : Nat) (hp : W.heap[p]? = some (.cells (vcells v).toArray 187)) :
    ∃ v' w', (Builtin.append_ #[108, 108] ty #[.slice a vs.length vs.length, .slice (some ⟨p, 0, none⟩) 1 m]).run Try.prog W = .ok v' w' ∧ ChNew W w' v' (vs ++ [v]) := by
  obtain ⟨i, hi, hz, hi1, hi2⟩ := info_parts infoVer
  have hn : ∀ j u, (vcells v)[j]? = some u → W.cell? ((⟨p, 0, none⟩ : Addr).add j) = some u := by
    intro j u hj
    have e : ((⟨p, 0, none⟩ : Addr).add j) = ⟨p, j, none⟩ := by unfold Addr.add; by_cases h0 : j = 0 <;> simp [h0]
    rw [e, cell_of_row W p j (vcells v).toArray 187 (0, 0) hp]
    simpa using hj
  have fin : ∀ v' w', w'.ownsRow W.heap.size 187 3 v' (vs.length + 1) (vrow vs ++ vcells v) → W.grownBy w' none → ChNew W w' v' (vs ++ [v]) := fun v' w' ho hg => by
    rcases ho.2 with ⟨_, h0⟩ | ⟨g, cap, cur, e1, e2, e3, e4, e5, _⟩
    · omega
    · refine ⟨g, cap, by rw [e1, List.length_append]; rfl, by rw [List.length_append]; exact e4, by unfold maxLen at e5; exact e5, e2, (World.ownsRow.lt ho g (by rw [e1]; rfl)).2, fun j hj => ?_, ⟨hg.os, hg.tape, hg.output, hg.size, fun k hk => hg.block k hk (by simp)⟩⟩
      have hc := World.ownsRow.cells ho (g := g) (by rw [e1]; rfl)
      have e : vrow vs ++ vcells v = vrow (vs ++ [v]) := by rw [vrow_app]; simp [vrow]
      have hh : ∀ t, t < 3 → ∀ u, (vcells ((vs ++ [v])[j]))[t]? = some u → w'.cell? ⟨g, 0 + j * 3 + t, none⟩ = some u := fun t ht u hu => by
        have h1 := hc (j * 3 + t) u (by rw [e, vrow_get _ j hj t ht]; exact hu)
        have e2 : (⟨g, 0, none⟩ : Addr).add (j * 3 + t) = ⟨g, 0 + j * 3 + t, none⟩ := by unfold Addr.add; by_cases h0 : j * 3 + t = 0 <;> simp [h0]; omega
        rw [e2] at h1
        exact h1
      exact ⟨hh 0 (by omega) _ rfl, hh 1 (by omega) _ rfl, hh 2 (by omega) _ rfl⟩
  have grow : ∀ (x : Addr), (∀ j u, (vrow vs)[j]? = some u → W.cell? (x.add j) = some u) → ∃ v' w', (Builtin.append_ #[108, 108] ty #[.slice (some x) vs.length vs.length, .slice (some ⟨p, 0, none⟩) 1 m]).run Try.prog W = .ok v' w' ∧ ChNew W w' v' (vs ++ [v]) := fun x hx => by
    obtain ⟨v', w', hr, ho, hg⟩ := run_append_arg_grows (P := Try.prog) W 108 ty 187 i _ 3 32 Try.underlying108 hi hz hi1 hi2 rfl (by decide) x vs.length vs.length (vrow vs) (vrow_len vs) hx
      ⟨p, 0, none⟩ 1 m (vcells v) rfl hn (by omega) (by unfold maxLen; omega) (by omega)
    exact ⟨v', w', hr, fin v' w' ho hg⟩
  rcases h.2 with rfl | ⟨b, off, rfl, hlt, hv⟩
  · cases a with
    | some x => exact grow x fun j u hj => by simp [vrow] at hj
    | none =>
      obtain ⟨v', w', hr, ho, hg, _⟩ := run_append_own (P := Try.prog) W W.heap.size 108 ty 187 i _ 3 32 Try.underlying108 hi hz hi1 hi2 rfl (by decide) (.slice none 0 0) 0 [] ⟨rfl, .inl ⟨rfl, rfl⟩⟩
        ⟨p, 0, none⟩ 1 m (vcells v) rfl hn (by intro u hu; simp [vcells] at hu; rcases hu with rfl | rfl | rfl <;> rfl) (by unfold maxLen; omega) (by omega) (Nat.le_refl _)
      exact ⟨v', w', hr, fin v' w' ho hg⟩
  · refine grow ⟨b, off, none⟩ fun j u hj => ?_
    have hjl : j < vs.length * 3 := by rw [← vrow_len vs]; exact (List.getElem?_eq_some_iff.1 hj).1
    have hj3 : j = j / 3 * 3 + j % 3 := by omega
    have hd : j / 3 < vs.length := by omega
    rw [hj3, vrow_get vs (j / 3) hd (j % 3) (by omega)] at hj
    have e : (⟨b, off, none⟩ : Addr).add j = ⟨b, off + j / 3 * 3 + j % 3, none⟩ := by unfold Addr.add; by_cases h0 : j = 0 <;> simp [h0]; omega
    rw [e]
    obtain ⟨c0, c1, c2⟩ := hv (j / 3) hd
    rcases (show j % 3 = 0 ∨ j % 3 = 1 ∨ j % 3 = 2 by omega) with e | e | e <;> rw [e] at hj ⊢ <;> simp [vcells] at hj <;> subst hj
    · exact c0
    · exact c1
    · exact c2

end Go.Proofs.Ytcebnoapgceodaa
end
