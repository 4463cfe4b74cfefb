/-
  patch: Op.along along whatever path; Op.fits, Op.Right, patch.clone.
  patch: Op.fits, Op.Right, clone.
  patch: check; Apply.
  patch.Apply.
  mailbaglaw08.head.
  Plain facts for mailbaglaw08.PatchTwice.
  The walk of mailbaglaw08.PatchTwice.
-/
import Derived.Test.YtljhcnlifdmacaaPBA
import Derived.Test.YtljhcnlifdmacaaValRW
import Derived.Test.YtljhcnlifdmacaaVOfList
import Derived.Test.YtljhcnlifdmacaaPTwA
import Derived.Test.YtljhcnlifdmacaaVCmpLaws
import Derived.Test.YtljhcnlifdmacaaValCmp2
import Derived.Deep.CutRange
import Derived.Deep.RegionHeld3
section
namespace Go.Proofs.Ytljhcnlifdmacaa
open Go.RowKit

/-- texts that lie one behind the other -/
def StrAt (w : World) (b off : Nat) (ss : List ByteArray) : Prop := b < w.heap.size ∧ ∀ i (h : i < ss.length), w.cell? ⟨b, off + i, none⟩ = some (.string (ss[i]))

theorem StrAt.below {w w' : World} {b off : Nat} {ss : List ByteArray} (h : StrAt w b off ss) (hb : Below w.heap.size w w') : StrAt w' b off ss :=
  ⟨Nat.lt_of_lt_of_le h.1 hb.size, fun i hi => (hb.cell (p := ⟨b, off + i, none⟩) h.1).trans (h.2 i hi)⟩

theorem StrAt.tail {w : World} {b off : Nat} {s : ByteArray} {ss : List ByteArray} (h : StrAt w b off (s :: ss)) : StrAt w b (off + 1) ss :=
  ⟨h.1, fun i hi => by
    have := h.2 (i + 1) (by simpa using hi)
    rw [show off + 1 + i = off + (i + 1) by omega]
    simpa using this⟩

def AlongOK (o : PO) (path : List ByteArray) : Prop := ∀ (v : V) (pa : Option Addr) (pl pc : Nat) (oa : Option Addr) (oc : Nat) (ob : Option Addr) (od : Nat) (la : Option Addr) (lc : Nat) (fa : Option Addr) (fc : Nat) (pb poff pk : Nat) (k : Nat) (w : World) (S : Nat → Prop), (∀ q, S q → q < w.heap.size) →
  v.At w S (.slice la v.list.length lc) (.slice fa v.fields.length fc) → o.val.At w S (.slice oa o.val.list.length oc) (.slice ob o.val.fields.length od) → StrAt w pb poff path → path.length ≤ pk → pk ≤ maxLen → v.okv k → k ≤ 90000 → Is64 o.val.num →
  Calls Try.prog 43 #[.agg #[.int .i64 o.kind, .slice pa pl pc, .int .i64 o.val.kind, .bool o.val.yes, .int .i64 o.val.num, .string o.val.text, .slice oa o.val.list.length oc, .slice ob o.val.fields.length od], .agg #[.int .i64 v.kind, .bool v.yes, .int .i64 v.num, .string v.text, .slice la v.list.length lc, .slice fa v.fields.length fc], .slice (some ⟨pb, poff, none⟩) path.length pk] w (ResP (alongV o path v) S w)

theorem along_one (o : PO) (n : ByteArray) : AlongOK o [n] := by
  intro v pa pl pc oa oc ob od la lc fa fc pb poff pk k w S hS hv ho hs hpk hpm hok hk h6
  have h := along_core o n 0 (lastV o (valF v.fields n) (isF v.fields n)) v pa pl pc oa oc ob od la lc fa fc pb poff pk k w S hS hv hs.1 (by have := hs.2 0 (by simp); simpa using this) (by simpa using hpk) hok hk
    (fun W xa xc xb xd off' hW hx _ => field_last o pa pl pc oa oc ob od (valF v.fields n) xa xc xb xd (isF v.fields n) _ _ W S (fun q hq => Nat.lt_of_lt_of_le (hS q hq) hW.size) (V.At.below ho hW) (okv_iff.1 (valF_okv (okv_iff.1 hok).2.2)).1.2.2.2 h6)
  rw [alongV]
  exact h

/-- Op.field ahead of the end of the path -/
theorem field_more {o : PO} {path : List ByteArray} (ih : AlongOK o path) (hp : 0 < path.length) (x : V) (pa : Option Addr) (pl pc : Nat) (oa : Option Addr) (oc : Nat) (ob : Option Addr) (od : Nat) (la : Option Addr) (lc : Nat) (fa : Option Addr) (fc : Nat) (t : Bool) (pb poff pk : Nat) (k : Nat) (w : World) (S : Nat → Prop) (hS : ∀ q, S q → q < w.heap.size)
    (hx : x.At w S (.slice la x.list.length lc) (.slice fa x.fields.length fc)) (ho : o.val.At w S (.slice oa o.val.list.length oc) (.slice ob o.val.fields.length od)) (hs : StrAt w pb poff path) (hpk : path.length ≤ pk) (hpm : pk ≤ maxLen) (hok : x.okv k) (hk : k ≤ 90000) (h6 : Is64 o.val.num) :
    Calls Try.prog 64 #[.agg #[.int .i64 o.kind, .slice pa pl pc, .int .i64 o.val.kind, .bool o.val.yes, .int .i64 o.val.num, .string o.val.text, .slice oa o.val.list.length oc, .slice ob o.val.fields.length od], .agg #[.int .i64 x.kind, .bool x.yes, .int .i64 x.num, .string x.text, .slice la x.list.length lc, .slice fa x.fields.length fc], .bool t, .slice (some ⟨pb, poff, none⟩) path.length pk] w (FResP ((alongV o path x).map some) S w) := by
  have hb3 : ∀ c3 c2 c1, Below w.heap.size w (((w.alloc (.cells c1 50)).alloc (.cells c2 26)).alloc (.cells c3 26)) := fun c3 c2 c1 => (((Below.refl _ w).alloc (Nat.le_refl _) _).alloc (by simp) _).alloc (by simp; omega) _
  have hcall := fun c3 c2 c1 => ih x pa pl pc oa oc ob od la lc fa fc pb poff pk k _ S (fun q hq => Nat.lt_of_lt_of_le (hS q hq) (hb3 c3 c2 c1).size) (V.At.below hx (hb3 c3 c2 c1)) (V.At.below ho (hb3 c3 c2 c1)) (hs.below (hb3 c3 c2 c1)) hpk hpm hok hk h6
  have HB := Lib.hid hb3
  have HC := Lib.hid hcall
  obtain ⟨m, hm⟩ : ∃ m, m = path.length := ⟨_, rfl⟩
  rw [← hm] at hp HC ⊢
  have hp1 : (0 : Int) < (m : Int) := by omega
  obtain ⟨r, hr⟩ : ∃ r, r = alongV o path x := ⟨_, rfl⟩
  have HSS := Lib.hid hS
  rw [← hr] at HC ⊢
  clear hb3 hcall hx ho hs hpk hpm hok hm hr ih hS
  go_enter Try.func64, Try.ntmps64
  go_wp2_with fail
  refine (HC.out _ _ _).mono ?_
  rintro e w1 ⟨hb1, h⟩
  have hZ1 : Box w1 (w.heap.size + 1 + 1) 26 #[.int .i64 0, .bool false, .int .i64 0, .string ⟨#[]⟩, .slice none 0 0, .slice none 0 0] := by
    have h9 := Box.new ((w.alloc (.cells #[.int .i64 o.kind, .slice pa pl pc, .int .i64 o.val.kind, .bool o.val.yes, .int .i64 o.val.num, .string o.val.text, .slice oa o.val.list.length oc, .slice ob o.val.fields.length od] 50)).alloc (.cells #[.int .i64 x.kind, .bool x.yes, .int .i64 x.num, .string x.text, .slice la x.list.length lc, .slice fa x.fields.length fc] 26)) 26 #[.int .i64 0, .bool false, .int .i64 0, .string ⟨#[]⟩, .slice none 0 0, .slice none 0 0]
    rw [show ((w.alloc (.cells #[.int .i64 o.kind, .slice pa pl pc, .int .i64 o.val.kind, .bool o.val.yes, .int .i64 o.val.num, .string o.val.text, .slice oa o.val.list.length oc, .slice ob o.val.fields.length od] 50)).alloc (.cells #[.int .i64 x.kind, .bool x.yes, .int .i64 x.num, .string x.text, .slice la x.list.length lc, .slice fa x.fields.length fc] 26)).heap.size = w.heap.size + 1 + 1 by simp] at h9
    exact (hb1.block _ (by simp)).trans h9
  have hb01 : Below w.heap.size w w1 := (HB.out _ _ _).trans (hb1.mono (HB.out _ _ _).size)
  have hge : w.heap.size ≤ w.heap.size + 1 + 1 := by omega
  have hsz : (((w.alloc (.cells #[.int .i64 o.kind, .slice pa pl pc, .int .i64 o.val.kind, .bool o.val.yes, .int .i64 o.val.num, .string o.val.text, .slice oa o.val.list.length oc, .slice ob o.val.fields.length od] 50)).alloc (.cells #[.int .i64 x.kind, .bool x.yes, .int .i64 x.num, .string x.text, .slice la x.list.length lc, .slice fa x.fields.length fc] 26)).alloc (.cells #[.int .i64 0, .bool false, .int .i64 0, .string ⟨#[]⟩, .slice none 0 0, .slice none 0 0] 26)).heap.size = w.heap.size + 1 + 1 + 1 := by simp
  rw [hsz] at h
  obtain ⟨⟨z0, z1, z2, z3, z4, z5⟩, s0, s1, s2, s3, s4, s5⟩ := hZ1.six
  have hzl := hZ1.lt
  clear hb1 hsz HC
  cases r with
  | error c =>
    obtain ⟨hc, rfl⟩ := h
    obtain ⟨k0, k1, k2, k3, k4, k5⟩ := box_ends_alloc (c0 := .int .i64 0) (c1 := .bool false) (c2 := .int .i64 0) (c3 := .string ⟨#[]⟩) (c4 := .slice none 0 0) (c5 := .slice none 0 0) hZ1 (.cells #[.int .i64 0, .bool false, .int .i64 0, .string ⟨#[]⟩, .slice none 0 0, .slice none 0 0] 26)
    simp only [sets, Nat.zero_add, Nat.reduceAdd] at k0 k1 k2 k3 k4 k5
    have HO2 : Hid (FResP ((Except.error c : Except Int V).map some) S w (.returned (.tuple #[.agg #[.int .i64 0, .bool false, .int .i64 0, .string ⟨#[]⟩, .slice none 0 0, .slice none 0 0], .bool true, .int .i64 c])) ((sets w1 (w.heap.size + 1 + 1) 0 [.int .i64 0, .bool false, .int .i64 0, .string ⟨#[]⟩, .slice none 0 0, .slice none 0 0]).alloc (.cells #[.int .i64 0, .bool false, .int .i64 0, .string ⟨#[]⟩, .slice none 0 0, .slice none 0 0] 26))) := Lib.hid ⟨below_ends_alloc hb01 hge _ _, hc, _, rfl⟩
    clear hZ1 hb01 hge hc
    go_wp2
    refine bodyPost_ret (v := .tuple #[.agg #[.int .i64 0, .bool false, .int .i64 0, .string ⟨#[]⟩, .slice none 0 0, .slice none 0 0], .bool true, .int .i64 c]) (by simp [results, Try.results64, go_sem, k0, k1, k2, k3, k4, k5]) rfl HO2.out
  | ok v =>
    obtain ⟨a, c, a', c', rfl, hat⟩ := h
    obtain ⟨k0, k1, k2, k3, k4, k5⟩ := box_ends_alloc (c0 := .int .i64 v.kind) (c1 := .bool v.yes) (c2 := .int .i64 v.num) (c3 := .string v.text) (c4 := .slice a v.list.length c) (c5 := .slice a' v.fields.length c') hZ1 (.cells #[.int .i64 v.kind, .bool v.yes, .int .i64 v.num, .string v.text, .slice a v.list.length c, .slice a' v.fields.length c'] 26)
    simp only [sets, Nat.zero_add, Nat.reduceAdd] at k0 k1 k2 k3 k4 k5
    have HO2 : Hid (FResP ((Except.ok v : Except Int V).map some) S w (.returned (.tuple #[.agg #[.int .i64 v.kind, .bool v.yes, .int .i64 v.num, .string v.text, .slice a v.list.length c, .slice a' v.fields.length c'], .bool true, .int .i64 0])) ((sets w1 (w.heap.size + 1 + 1) 0 [.int .i64 v.kind, .bool v.yes, .int .i64 v.num, .string v.text, .slice a v.list.length c, .slice a' v.fields.length c']).alloc (.cells #[.int .i64 v.kind, .bool v.yes, .int .i64 v.num, .string v.text, .slice a v.list.length c, .slice a' v.fields.length c'] 26))) := Lib.hid ⟨below_ends_alloc hb01 hge _ _, a, c, a', c', rfl, at_ends_alloc hat (fun q hq => hq.elim (fun h => ⟨by have := HSS.out q h; omega, .inl h⟩) (fun h => ⟨by omega, .inr (by omega)⟩)) _ _⟩
    clear hZ1 hb01 hge hat
    go_wp2
    refine bodyPost_ret (v := .tuple #[.agg #[.int .i64 v.kind, .bool v.yes, .int .i64 v.num, .string v.text, .slice a v.list.length c, .slice a' v.fields.length c'], .bool true, .int .i64 0]) (by simp [results, Try.results64, go_sem, k0, k1, k2, k3, k4, k5]) rfl HO2.out

theorem along_more (o : PO) (n : ByteArray) (path : List ByteArray) (hp : 0 < path.length) (ih : AlongOK o path) (hd : ∀ v, alongV o (n :: path) v = if v.kind ≠ 5 then .error 5 else ((alongV o path (valF v.fields n)).map some).map fun y => v.setF (putV v.fields n y)) : AlongOK o (n :: path) := by
  intro v pa pl pc oa oc ob od la lc fa fc pb poff pk k w S hS hv ho hs hpk hpm hok hk h6
  rw [List.length_cons] at hpk
  have h := along_core o n path.length ((alongV o path (valF v.fields n)).map some) v pa pl pc oa oc ob od la lc fa fc pb poff pk k w S hS hv hs.1 (by have := hs.2 0 (by simp); simpa using this) hpk hok hk
    (fun W xa xc xb xd off' hW hx hoff => by
      have e := hoff hp
      subst e
      exact field_more ih hp (valF v.fields n) pa pl pc oa oc ob od xa xc xb xd (isF v.fields n) pb (poff + 1) (pk - 1) k W S (fun q hq => Nat.lt_of_lt_of_le (hS q hq) hW.size) hx (V.At.below ho hW) (hs.tail.below hW) (by omega) (by omega) (valF_okv (okv_iff.1 hok).2.2) hk h6)
  rw [hd]
  exact h

theorem along_all (o : PO) : ∀ path : List ByteArray, 0 < path.length → AlongOK o path
  | [], h => by simp at h
  | [n], _ => along_one o n
  | n :: m :: r, _ => along_more o n (m :: r) (by simp) (along_all o (m :: r) (by simp)) fun v => by
    rw [alongV]
    split
    · rfl
    · cases alongV o (m :: r) (valF v.fields n) <;> rfl

end Go.Proofs.Ytljhcnlifdmacaa
end

section
namespace Go.Proofs.Ytljhcnlifdmacaa
open Go.RowKit

def fitsO (o : PO) : Bool := if o.kind = 1 then true else if o.kind = 2 then o.val.kind == 0 else if o.kind = 3 then o.val.kind == 2 else false
def rightO (o : PO) : Bool := decide (1 ≤ o.path.length) && (decide (o.path.length ≤ 16) && (fitsO o && o.val.right 32))

set_option maxHeartbeats 4000000 in
set_option maxRecDepth 100000 in
theorem fits_any (o : PO) (pa : Option Addr) (pl pc : Nat) (oa : Option Addr) (ol oc : Nat) (ob : Option Addr) (om od : Nat) (w : World) :
    Calls Try.prog 45 #[.agg #[.int .i64 o.kind, .slice pa pl pc, .int .i64 o.val.kind, .bool o.val.yes, .int .i64 o.val.num, .string o.val.text, .slice oa ol oc, .slice ob om od]] w fun e w' => e = .returned (.bool (fitsO o)) ∧ Below w.heap.size w w' := by
  have HB := Lib.hid ((Below.refl _ w).alloc (Nat.le_refl _) (.cells #[.int .i64 o.kind, .slice pa pl pc, .int .i64 o.val.kind, .bool o.val.yes, .int .i64 o.val.num, .string o.val.text, .slice oa ol oc, .slice ob om od] 50))
  unfold fitsO
  by_cases k1 : o.kind = 1
  · rw [if_pos k1]
    have g1 : (o.kind == 1) = true := by rw [beq_iff_eq]; exact k1
    clear k1
    go_enter Try.func45, Try.ntmps45
    go_wp2
    go_ret
    exact ⟨rfl, HB.out⟩
  rw [if_neg k1]
  have g1 : (o.kind == 1) = false := by rw [beq_eq_false_iff_ne]; exact k1
  by_cases k2 : o.kind = 2
  · rw [if_pos k2]
    have g2 : (o.kind == 2) = true := by rw [beq_iff_eq]; exact k2
    clear k1 k2
    go_enter Try.func45, Try.ntmps45
    go_wp2
    go_ret
    exact ⟨rfl, HB.out⟩
  rw [if_neg k2]
  have g2 : (o.kind == 2) = false := by rw [beq_eq_false_iff_ne]; exact k2
  by_cases k3 : o.kind = 3
  · rw [if_pos k3]
    have g3 : (o.kind == 3) = true := by rw [beq_iff_eq]; exact k3
    clear k1 k2 k3
    go_enter Try.func45, Try.ntmps45
    go_wp2
    go_ret
    exact ⟨rfl, HB.out⟩
  rw [if_neg k3]
  have g3 : (o.kind == 3) = false := by rw [beq_eq_false_iff_ne]; exact k3
  clear k1 k2 k3
  go_enter Try.func45, Try.ntmps45
  go_wp2
  go_ret
  exact ⟨rfl, HB.out⟩

set_option maxHeartbeats 4000000 in
set_option maxRecDepth 100000 in
theorem opright_any (o : PO) (pa : Option Addr) (pc : Nat) (oa : Option Addr) (oc : Nat) (ob : Option Addr) (od : Nat) (w : World) (ho : o.val.Is w (.slice oa o.val.list.length oc) (.slice ob o.val.fields.length od)) (hpl : o.path.length ≤ maxLen) :
    Calls Try.prog 22 #[.agg #[.int .i64 o.kind, .slice pa o.path.length pc, .int .i64 o.val.kind, .bool o.val.yes, .int .i64 o.val.num, .string o.val.text, .slice oa o.val.list.length oc, .slice ob o.val.fields.length od]] w fun e w' => e = .returned (.bool (rightO o)) ∧ Below w.heap.size w w' := by
  have hA : Below w.heap.size w (w.alloc (.cells #[.int .i64 o.kind, .slice pa o.path.length pc, .int .i64 o.val.kind, .bool o.val.yes, .int .i64 o.val.num, .string o.val.text, .slice oa o.val.list.length oc, .slice ob o.val.fields.length od] 50)) := (Below.refl _ w).alloc (Nat.le_refl _) _
  have HB := Lib.hid hA
  have HO := Lib.hid (V.Is.below ho hA)
  have hbx := Box.new w 50 #[.int .i64 o.kind, .slice pa o.path.length pc, .int .i64 o.val.kind, .bool o.val.yes, .int .i64 o.val.num, .string o.val.text, .slice oa o.val.list.length oc, .slice ob o.val.fields.length od]
  have HBX := Lib.hid hbx
  obtain ⟨L, hL⟩ : ∃ L, L = o.path.length := ⟨_, rfl⟩
  have hfits := fun W => fits_any o pa o.path.length pc oa o.val.list.length oc ob o.val.fields.length od W
  unfold rightO
  rw [← hL] at hpl hfits HB HO HBX ⊢
  have HFT := Lib.hid hfits
  clear hL ho hA hbx hfits
  unfold maxLen at hpl
  by_cases h1 : 1 ≤ L
  · have h1' : (1 : Int) ≤ (L : Int) := by omega
    by_cases h2 : L ≤ 16
    · have h2' : (L : Int) ≤ 16 := by omega
      rw [decide_eq_true h1, decide_eq_true h2, Bool.true_and, Bool.true_and]
      obtain ⟨b, hb⟩ : ∃ b, b = fitsO o := ⟨_, rfl⟩
      rw [← hb] at HFT ⊢
      clear hb
      cases b with
      | false =>
        rw [Bool.false_and]
        go_enter Try.func22, Try.ntmps22
        go_wp2_with fail
        refine (HFT.out _).mono ?_
        rintro e w1 ⟨rfl, hb1⟩
        have HF := Lib.hid (HB.out.trans (hb1.mono HB.out.size))
        clear hb1
        go_wp2
        go_ret
        exact ⟨rfl, HF.out⟩
      | true =>
        rw [Bool.true_and]
        obtain ⟨r, hr0⟩ : ∃ r, r = o.val.right 32 := ⟨_, rfl⟩
        rw [← hr0]
        have HR0 := Lib.hid hr0
        clear hr0
        go_enter Try.func22, Try.ntmps22
        go_wp2_with fail
        refine (HFT.out _).mono ?_
        rintro e w1 ⟨rfl, hb1⟩
        obtain ⟨o0, o1, o2, o3, o4, o5, o6, o7⟩ := Box.eight (show Box w1 w.heap.size 50 #[.int .i64 o.kind, .slice pa L pc, .int .i64 o.val.kind, .bool o.val.yes, .int .i64 o.val.num, .string o.val.text, .slice oa o.val.list.length oc, .slice ob o.val.fields.length od] from (hb1.block _ HBX.out.lt).trans HBX.out)
        have hr := right_any o.val _ _ w1 (HO.out.below hb1)
        rw [← HR0.out] at hr
        have HR := Lib.hid hr
        have HF := Lib.hid (HB.out.trans (hb1.mono HB.out.size))
        clear hb1 hr HR0
        go_wp2_with fail
        refine HR.out.mono ?_
        rintro e w2 ⟨rfl, hb2⟩
        have HF2 := Lib.hid (HF.out.trans (hb2.mono HF.out.size))
        clear hb2 o0 o1 o2 o3 o4 o5 o6 o7
        go_wp2
        go_ret
        exact ⟨rfl, HF2.out⟩
    · have h2' : ¬ (L : Int) ≤ 16 := by omega
      rw [decide_eq_false h2, Bool.false_and, Bool.and_false]
      go_enter Try.func22, Try.ntmps22
      go_wp2
      go_ret
      exact ⟨rfl, HB.out⟩
  · have h1' : ¬ (1 : Int) ≤ (L : Int) := by omega
    rw [decide_eq_false h1, Bool.false_and]
    go_enter Try.func22, Try.ntmps22
    go_wp2
    go_ret
    exact ⟨rfl, HB.out⟩

set_option maxHeartbeats 4000000 in
set_option maxRecDepth 100000 in
theorem pclone_any (v : V) (la : Option Addr) (lc : Nat) (fa : Option Addr) (fc : Nat) (w : World) (hv : v.Is w (.slice la v.list.length lc) (.slice fa v.fields.length fc)) (hsm : v.sm) :
    Calls Try.prog 44 #[.agg #[.int .i64 v.kind, .bool v.yes, .int .i64 v.num, .string v.text, .slice la v.list.length lc, .slice fa v.fields.length fc]] w fun e w' =>
      ∃ a c a' c', e = .returned (.agg #[.int .i64 v.kind, .bool v.yes, .int .i64 v.num, .string v.text, .slice a v.list.length c, .slice a' v.fields.length c']) ∧ v.At w' (fun q => w.heap.size ≤ q) (.slice a v.list.length c) (.slice a' v.fields.length c') ∧ Below w.heap.size w w' := by
  obtain ⟨W0, hW0⟩ : ∃ W0, W0 = (w.alloc (.cells #[.int .i64 v.kind, .bool v.yes, .int .i64 v.num, .string v.text, .slice la v.list.length lc, .slice fa v.fields.length fc] 26)).alloc (.cells #[.int .i64 0, .bool false, .int .i64 0, .string ⟨#[]⟩, .slice none 0 0, .slice none 0 0] 26) := ⟨_, rfl⟩
  have hb0 : Below w.heap.size w W0 := by rw [hW0]; exact ((Below.refl _ w).alloc (Nat.le_refl _) _).alloc (by simp) _
  have hz0 : W0.heap.size = w.heap.size + 1 + 1 := by rw [hW0]; simp
  have hZ : Box W0 (w.heap.size + 1) 26 #[.int .i64 0, .bool false, .int .i64 0, .string ⟨#[]⟩, .slice none 0 0, .slice none 0 0] := by
    rw [hW0]
    have h9 := Box.new (w.alloc (.cells #[.int .i64 v.kind, .bool v.yes, .int .i64 v.num, .string v.text, .slice la v.list.length lc, .slice fa v.fields.length fc] 26)) 26 #[.int .i64 0, .bool false, .int .i64 0, .string ⟨#[]⟩, .slice none 0 0, .slice none 0 0]
    rw [show (w.alloc (.cells #[.int .i64 v.kind, .bool v.yes, .int .i64 v.num, .string v.text, .slice la v.list.length lc, .slice fa v.fields.length fc] 26)).heap.size = w.heap.size + 1 by simp] at h9
    exact h9
  have hA : Below W0.heap.size W0 (W0.alloc (.cells #[.int .i64 v.kind, .bool v.yes, .int .i64 v.num, .string v.text, .slice la v.list.length lc, .slice fa v.fields.length fc] 26)) := (Below.refl _ W0).alloc (Nat.le_refl _) _
  have hone : LAt (W0.alloc (.cells #[.int .i64 v.kind, .bool v.yes, .int .i64 v.num, .string v.text, .slice la v.list.length lc, .slice fa v.fields.length fc] 26)) All [v] (.slice (some ⟨w.heap.size + 1 + 1, 0, none⟩) 1 1) := by
    rw [← hz0]
    exact one_at (t := 26) (Box.new W0 26 _) trivial (Nat.le_refl _) (by decide) ((V.Is.below hv hb0).below hA)
  have hcall := ofList_any [v] (fun x hx => by rw [show x = v by simpa using hx]; exact hsm) (by simp) _ _ hone
  have HC := Lib.hid hcall
  have HZ := Lib.hid (And.intro hb0 (And.intro hz0 (And.intro hZ hA)))
  have hfl : ∀ lv W, (Instr.field 26 (.agg #[.int .i64 4, .bool false, .int .i64 0, .string ⟨#[]⟩, lv, .slice none 0 0]) 4).run Try.prog W = .ok lv W := fun lv W => by kernel_rfl
  rw [hW0] at HC
  clear hcall hone hb0 hz0 hZ hA hv hsm
  go_enter Try.func44, Try.ntmps44
  go_wp2_with fail
  refine HC.out.mono ?_
  rintro e w1 ⟨lv, rfl, hat, hb1⟩
  obtain ⟨hb0, hz0, hZ, hA⟩ := HZ.out
  obtain ⟨⟨ga, gc, e1, hc1, _, hl⟩, _⟩ := V.at_iff.1 hat
  have e2 : lv = .slice ga 1 gc := e1
  subst e2
  rw [← hW0] at hb1 hl
  obtain ⟨b, off, rfl, hS, hlt, hcl⟩ : ∃ b off, ga = some ⟨b, off, none⟩ ∧ (W0.alloc (.cells #[.int .i64 v.kind, .bool v.yes, .int .i64 v.num, .string v.text, .slice la v.list.length lc, .slice fa v.fields.length fc] 26)).heap.size ≤ b ∧ b < w1.heap.size ∧ LCells w1 (fun q => (W0.alloc (.cells #[.int .i64 v.kind, .bool v.yes, .int .i64 v.num, .string v.text, .slice la v.list.length lc, .slice fa v.fields.length fc] 26)).heap.size ≤ q) b off [v] := hl.resolve_left (by intro e; cases e)
  obtain ⟨lv2, fv2, hin, hat2⟩ := hcl.get (i := 0) (by simp)
  obtain ⟨⟨qa, qc, rfl⟩, ⟨qb, qd, rfl⟩, _, _⟩ := hat2.is.len
  simp only [List.getElem_cons_zero, Nat.zero_mul, Nat.add_zero] at hin hat2
  have p0 := hin 0 _ rfl
  rw [Nat.add_zero] at p0
  have p1 := hin 1 _ rfl
  have p2 := hin 2 _ rfl
  have p3 := hin 3 _ rfl
  have p4 := hin 4 _ rfl
  have p5 := hin 5 _ rfl
  have hz2 : (W0.alloc (.cells #[.int .i64 v.kind, .bool v.yes, .int .i64 v.num, .string v.text, .slice la v.list.length lc, .slice fa v.fields.length fc] 26)).heap.size = w.heap.size + 1 + 1 + 1 := by simp [hz0]
  have hz1 : w.heap.size + 1 + 1 + 1 ≤ b := by rw [hz2] at hS; exact hS
  rw [hz2] at hat2
  have hZ1 : Box w1 (w.heap.size + 1) 26 #[.int .i64 0, .bool false, .int .i64 0, .string ⟨#[]⟩, .slice none 0 0, .slice none 0 0] := (hb1.block _ (by omega)).trans ((hA.block _ (by omega)).trans hZ)
  have hb01 : Below w.heap.size w w1 := hb0.trans ((hA.mono hb0.size).trans (hb1.mono (by omega)))
  obtain ⟨k0, k1, k2, k3, k4, k5⟩ := box_ends (c0 := .int .i64 v.kind) (c1 := .bool v.yes) (c2 := .int .i64 v.num) (c3 := .string v.text) (c4 := .slice qa v.list.length qc) (c5 := .slice qb v.fields.length qd) hZ1
  simp only [sets, Nat.zero_add, Nat.reduceAdd] at k0 k1 k2 k3 k4 k5
  have HO : Hid (v.At (sets w1 (w.heap.size + 1) 0 [.int .i64 v.kind, .bool v.yes, .int .i64 v.num, .string v.text, .slice qa v.list.length qc, .slice qb v.fields.length qd]) (fun q => w.heap.size ≤ q) (.slice qa v.list.length qc) (.slice qb v.fields.length qd) ∧ Below w.heap.size w (sets w1 (w.heap.size + 1) 0 [.int .i64 v.kind, .bool v.yes, .int .i64 v.num, .string v.text, .slice qa v.list.length qc, .slice qb v.fields.length qd])) :=
    Lib.hid ⟨at_ends hat2 (fun q hq => ⟨by omega, by omega⟩) _, below_ends hb01 (by omega) _⟩
  obtain ⟨⟨z0, z1, z2, z3, z4, z5⟩, s0, s1, s2, s3, s4, s5⟩ := hZ1.six
  have hzl := hZ1.lt
  clear hin hat2 hcl hl hat hb1 hZ1 hb01 hZ hA hb0 hz0 hz1 hz2 hS e1 hc1 HZ HC hW0
  go_wp2
  refine bodyPost_ret (v := .agg #[.int .i64 v.kind, .bool v.yes, .int .i64 v.num, .string v.text, .slice qa v.list.length qc, .slice qb v.fields.length qd]) (by simp [results, Try.results44, go_sem, k0, k1, k2, k3, k4, k5]) rfl ⟨qa, qc, qb, qd, rfl, HO.out.1, HO.out.2⟩

end Go.Proofs.Ytljhcnlifdmacaa
end

section
namespace Go.Proofs.Ytljhcnlifdmacaa
open Go.RowKit

/-- an operation as it lies -/
def OpAt (w : World) (S : Nat → Prop) (b off : Nat) (o : PO) : Prop :=
  ∃ pa pc oa oc ob od, InAt w b off [.int .i64 o.kind, .slice pa o.path.length pc, .int .i64 o.val.kind, .bool o.val.yes, .int .i64 o.val.num, .string o.val.text, .slice oa o.val.list.length oc, .slice ob o.val.fields.length od] ∧
    (o.path.length ≤ pc ∧ pc ≤ maxLen) ∧ (o.path = [] ∨ ∃ pb poff, pa = some ⟨pb, poff, none⟩ ∧ StrAt w pb poff o.path) ∧ o.val.At w S (.slice oa o.val.list.length oc) (.slice ob o.val.fields.length od)

theorem OpAt.below {w w' : World} {S : Nat → Prop} {b off : Nat} {o : PO} (h : OpAt w S b off o) (hlt : b < w.heap.size) (hb : Below w.heap.size w w') : OpAt w' S b off o := by
  obtain ⟨pa, pc, oa, oc, ob, od, h1, h2, h3, h4⟩ := h
  exact ⟨pa, pc, oa, oc, ob, od, h1.keep (hb.block b hlt), h2, h3.imp id fun ⟨pb, poff, e, hs⟩ => ⟨pb, poff, e, hs.below hb⟩, h4.below hb⟩

/-- operations in a slice -/
def OpsAt (w : World) (S : Nat → Prop) (a : Option Addr) (ops : List PO) : Prop :=
  ops = [] ∨ ∃ b off, a = some ⟨b, off, none⟩ ∧ b < w.heap.size ∧ ∀ i (h : i < ops.length), OpAt w S b (off + i * 8) (ops[i])

theorem OpsAt.below {w w' : World} {S : Nat → Prop} {a : Option Addr} {ops : List PO} (h : OpsAt w S a ops) (hb : Below w.heap.size w w') : OpsAt w' S a ops :=
  h.imp id fun ⟨b, off, e, hlt, h⟩ => ⟨b, off, e, Nat.lt_of_lt_of_le hlt hb.size, fun i hi => (h i hi).below hlt hb⟩

theorem InAt.eight {w : World} {b off : Nat} {c0 c1 c2 c3 c4 c5 c6 c7 : Value} (h : InAt w b off [c0, c1, c2, c3, c4, c5, c6, c7]) :
    w.cell? ⟨b, off, none⟩ = some c0 ∧ w.cell? ⟨b, off + 1, none⟩ = some c1 ∧ w.cell? ⟨b, off + 2, none⟩ = some c2 ∧ w.cell? ⟨b, off + 3, none⟩ = some c3 ∧ w.cell? ⟨b, off + 4, none⟩ = some c4 ∧ w.cell? ⟨b, off + 5, none⟩ = some c5 ∧ w.cell? ⟨b, off + 6, none⟩ = some c6 ∧ w.cell? ⟨b, off + 7, none⟩ = some c7 :=
  ⟨h 0 _ rfl, h 1 _ rfl, h 2 _ rfl, h 3 _ rfl, h 4 _ rfl, h 5 _ rfl, h 6 _ rfl, h 7 _ rfl⟩

/-- the first error of operations as they stand -/
def checkV (ops : List PO) : Int := if 50 < ops.length then 4 else if ops.all rightO then 0 else 1

set_option maxHeartbeats 4000000 in
set_option maxRecDepth 100000 in
theorem check_any (ops : List PO) (a : Option Addr) (c : Nat) (w : World) (h : OpsAt w All a ops) (hl : ops.length ≤ 100000) :
    Calls Try.prog 42 #[.slice a ops.length c] w fun e w' => e = .returned (.int .i64 (checkV ops)) ∧ Below w.heap.size w w' := by
  by_cases h50 : 50 < ops.length
  · have h1 : (50 : Int) < (ops.length : Int) := by omega
    unfold checkV
    rw [if_pos h50]
    clear h
    go_enter Try.func42, Try.ntmps42
    go_wp2
    go_ret
    exact ⟨rfl, Below.refl _ _⟩
  have h1 : ¬ (50 : Int) < (ops.length : Int) := by omega
  have hcv : checkV ops = if ops.all rightO then 0 else 1 := by unfold checkV; rw [if_neg h50]
  have HCV := Lib.hid hcv
  have HO := Lib.hid h
  clear h hcv
  go_enter Try.func42, Try.ntmps42
  go_wp2
  go_loopw [10] (fun i wr => ∃ k : Nat, k ≤ ops.length ∧ i = .int .i64 k ∧ Hid (Below w.heap.size w wr ∧ ∀ j (h : j < ops.length), j < k → rightO (ops[j]) = true)) (fun i _ => ops.length - (intOf i).toNat)
  case atStart => exact ⟨0, Nat.zero_le _, rfl, Lib.hid ⟨Below.refl _ _, fun j _ hj => by omega⟩⟩
  case round =>
    obtain ⟨k, hk, rfl, HR⟩ := hrel
    by_cases hlt : k < ops.length
    · obtain ⟨b, off, rfl, hb, hops⟩ := (HO.out.below HR.out.1).resolve_left (by intro e; rw [e] at hlt; simp at hlt)
      obtain ⟨pa, pc, oa, oc, ob, od, hin, hpl, hpt, hat⟩ := hops k hlt
      clear hpt
      have hnext : rightO (ops[k]) = true → ∀ j (h : j < ops.length), j < k + 1 → rightO (ops[j]) = true := fun hp j h hj => by
        by_cases e : j = k
        · subst e; exact hp
        · exact HR.out.2 j h (by omega)
      have hstop : rightO (ops[k]) = false → checkV ops = 1 := fun hp => by
        rw [HCV.out, if_neg]
        intro hall
        rw [List.all_eq_true.1 hall _ (List.getElem_mem hlt)] at hp
        cases hp
      obtain ⟨o, ho⟩ : ∃ o, o = ops[k] := ⟨_, rfl⟩
      rw [← ho] at hin hpl hat hnext hstop
      obtain ⟨p0, p1, p2, p3, p4, p5, p6, p7⟩ := hin.eight
      have hkl : (k : Int) < (ops.length : Int) := by omega
      have hA : Below wr.heap.size wr (wr.alloc (.cells #[.int .i64 o.kind, .slice pa o.path.length pc, .int .i64 o.val.kind, .bool o.val.yes, .int .i64 o.val.num, .string o.val.text, .slice oa o.val.list.length oc, .slice ob o.val.fields.length od] 50)) := (Below.refl _ wr).alloc (Nat.le_refl _) _
      have hcall := opright_any o pa pc oa oc ob od _ (V.At.below hat hA) (Nat.le_trans hpl.1 hpl.2)
      have HB1 := Lib.hid (HR.out.1.trans (hA.mono HR.out.1.size))
      have HCALL := Lib.hid hcall
      have HLT := Lib.hid hlt
      cases hro : rightO o with
      | false =>
        rw [hro] at HCALL
        have HST := Lib.hid (hstop hro)
        clear hin hat hpl hA hcall hnext hstop ho hro hlt hops HR hb
        go_wp2_with fail
        refine HCALL.out.mono ?_
        rintro e w4 ⟨rfl, hb4⟩
        have HF := Lib.hid (HB1.out.trans (hb4.mono HB1.out.size))
        clear hb4
        go_wp2
        go_ret
        exact ⟨by first | (rw [HST.out]; done) | (rw [HST.out]; rfl), HF.out⟩
      | true =>
        rw [hro] at HCALL
        have HN := Lib.hid (hnext hro)
        clear hin hat hpl hA hcall hnext hstop ho hro hlt hops HR hb
        go_wp2_with fail
        refine HCALL.out.mono ?_
        rintro e w4 ⟨rfl, hb4⟩
        have HF := Lib.hid (And.intro (HB1.out.trans (hb4.mono HB1.out.size)) HN.out)
        clear hb4
        go_wp2
        go_roundw
        case rel => exact ⟨k + 1, by have := HLT.out; omega, by have := HLT.out; go_num, HF⟩
        case measure => have := HLT.out; simp [intOf]; omega
    · obtain rfl : k = ops.length := by omega
      have hge : ¬ (ops.length : Int) < (ops.length : Int) := by omega
      have hz : checkV ops = 0 := by
        rw [HCV.out, if_pos]
        exact List.all_eq_true.2 fun x hx => by
          obtain ⟨j, hj, rfl⟩ := List.getElem_of_mem hx
          exact HR.out.2 j hj hj
      have HZ := Lib.hid hz
      clear hlt hz
      go_wp2
      go_ret
      exact ⟨by first | (rw [HZ.out]; done) | (rw [HZ.out]; rfl), HR.out.1⟩

end Go.Proofs.Ytljhcnlifdmacaa
end

section
namespace Go.Proofs.Ytljhcnlifdmacaa
open Go.RowKit

/-- the operations, one behind the other -/
def runV : List PO → V → Except Int V
  | [], v => .ok v
  | o :: r, v => match alongV o o.path v with
    | .error c => .error c
    | .ok y => runV r y

/-- what Apply gives -/
def applyV (v : V) (ops : List PO) : Except Int V :=
  if checkV ops ≠ 0 then .error (checkV ops) else match runV ops v with
    | .error c => .error c
    | .ok y => if y.right 32 = true then .ok y else .error 3

/-- the value behind the first k operations -/
def AP (w : World) (ops : List PO) (v : V) (K k : Nat) (W : World) : Prop :=
  ∃ u ua uc ub ud, Box W w.heap.size 26 #[.int .i64 u.kind, .bool u.yes, .int .i64 u.num, .string u.text, .slice ua u.list.length uc, .slice ub u.fields.length ud] ∧ Box W (w.heap.size + 1) 26 #[.int .i64 0, .bool false, .int .i64 0, .string ⟨#[]⟩, .slice none 0 0, .slice none 0 0] ∧ u.At W (fun q => q < w.heap.size ∨ w.heap.size + 2 ≤ q) (.slice ua u.list.length uc) (.slice ub u.fields.length ud) ∧ u.okv (K + k) ∧ runV (ops.drop k) u = runV ops v ∧ Below w.heap.size w W

set_option maxHeartbeats 4000000 in
set_option maxRecDepth 100000 in
theorem apply_any (v : V) (ops : List PO) (la : Option Addr) (lc : Nat) (fa : Option Addr) (fc : Nat) (a : Option Addr) (c : Nat) (K : Nat) (w : World) (hv : v.Is w (.slice la v.list.length lc) (.slice fa v.fields.length fc)) (h : OpsAt w All a ops) (hl : ops.length ≤ 100000) (hok : v.okv K) (hK : K ≤ 80000) (hoo : ∀ o ∈ ops, rightO o = true → o.val.okv K) :
    Calls Try.prog 21 #[.agg #[.int .i64 v.kind, .bool v.yes, .int .i64 v.num, .string v.text, .slice la v.list.length lc, .slice fa v.fields.length fc], .slice a ops.length c] w (ResP (applyV v ops) (fun _ => False) w) := by
  have hb2 : Below w.heap.size w ((w.alloc (.cells #[.int .i64 v.kind, .bool v.yes, .int .i64 v.num, .string v.text, .slice la v.list.length lc, .slice fa v.fields.length fc] 26)).alloc (.cells #[.int .i64 0, .bool false, .int .i64 0, .string ⟨#[]⟩, .slice none 0 0, .slice none 0 0] 26)) := ((Below.refl _ w).alloc (Nat.le_refl _) _).alloc (by simp) _
  have hbox : Box ((w.alloc (.cells #[.int .i64 v.kind, .bool v.yes, .int .i64 v.num, .string v.text, .slice la v.list.length lc, .slice fa v.fields.length fc] 26)).alloc (.cells #[.int .i64 0, .bool false, .int .i64 0, .string ⟨#[]⟩, .slice none 0 0, .slice none 0 0] 26)) w.heap.size 26 #[.int .i64 v.kind, .bool v.yes, .int .i64 v.num, .string v.text, .slice la v.list.length lc, .slice fa v.fields.length fc] ∧ Box ((w.alloc (.cells #[.int .i64 v.kind, .bool v.yes, .int .i64 v.num, .string v.text, .slice la v.list.length lc, .slice fa v.fields.length fc] 26)).alloc (.cells #[.int .i64 0, .bool false, .int .i64 0, .string ⟨#[]⟩, .slice none 0 0, .slice none 0 0] 26)) (w.heap.size + 1) 26 #[.int .i64 0, .bool false, .int .i64 0, .string ⟨#[]⟩, .slice none 0 0, .slice none 0 0] := by
    have e1 := (Box.new w 26 #[.int .i64 v.kind, .bool v.yes, .int .i64 v.num, .string v.text, .slice la v.list.length lc, .slice fa v.fields.length fc]).alloc (.cells #[.int .i64 0, .bool false, .int .i64 0, .string ⟨#[]⟩, .slice none 0 0, .slice none 0 0] 26)
    have e2 := Box.new (w.alloc (.cells #[.int .i64 v.kind, .bool v.yes, .int .i64 v.num, .string v.text, .slice la v.list.length lc, .slice fa v.fields.length fc] 26)) 26 #[.int .i64 0, .bool false, .int .i64 0, .string ⟨#[]⟩, .slice none 0 0, .slice none 0 0]
    rw [show (w.alloc (.cells #[.int .i64 v.kind, .bool v.yes, .int .i64 v.num, .string v.text, .slice la v.list.length lc, .slice fa v.fields.length fc] 26)).heap.size = w.heap.size + 1 by simp] at e2
    exact ⟨e1, e2⟩
  have hcheck := check_any ops a c _ (h.below hb2) hl
  have HCK := Lib.hid hcheck
  have HB := Lib.hid (And.intro hb2 hbox)
  have HV := Lib.hid (And.intro hv (And.intro hok hoo))
  have HO := Lib.hid h
  clear hb2 hbox hcheck hv hok hoo h
  by_cases hc0 : checkV ops = 0
  · have HC0 := Lib.hid hc0
    rw [hc0] at HCK
    have hap : applyV v ops = match runV ops v with | .error c => .error c | .ok y => if y.right 32 = true then .ok y else .error 3 := by unfold applyV; rw [if_neg (by simp [hc0])]
    rw [hap]
    obtain ⟨R0, hR0⟩ : ∃ R0, R0 = ((match runV ops v with | .error c => .error c | .ok y => if y.right 32 = true then .ok y else .error 3) : Except Int V) := ⟨_, rfl⟩
    rw [← hR0]
    have HR0 := Lib.hid hR0
    clear hc0 hap hR0
    go_enter Try.func21, Try.ntmps21
    go_wp2_with fail
    refine HCK.out.mono ?_
    rintro e w1 ⟨rfl, hb1⟩
    have h50 : ops.length ≤ 50 ∧ ∀ o ∈ ops, rightO o = true := by
      have h := HC0.out
      unfold checkV at h
      split at h
      · omega
      · split at h
        · rename_i h1 h2
          exact ⟨by omega, fun o ho => List.all_eq_true.1 h2 o ho⟩
        · omega
    have HST : Hid (AP w ops v K 0 w1) := Lib.hid ⟨v, la, lc, fa, fc, (hb1.block _ HB.out.2.1.lt).trans HB.out.2.1, (hb1.block _ HB.out.2.2.lt).trans HB.out.2.2, V.At.move (fun q _ hq => ⟨.inl hq, (HB.out.1.trans (hb1.mono HB.out.1.size)).block q hq⟩) (HB.out.1.trans (hb1.mono HB.out.1.size)).size _ (Nat.le_refl _) HV.out.1, HV.out.2.1, rfl, HB.out.1.trans (hb1.mono HB.out.1.size)⟩
    have HR50 := Lib.hid h50
    clear hb1 h50 HCK HB
    go_wp2_with fail
    go_loopw [19] (fun i wr => ∃ k : Nat, k ≤ ops.length ∧ i = .int .i64 k ∧ Hid (AP w ops v K k wr)) (fun i _ => ops.length - (intOf i).toNat)
    case atStart => exact ⟨0, Nat.zero_le _, rfl, HST⟩
    case round =>
      obtain ⟨k, hk, rfl, HR⟩ := hrel
      clear HST
      obtain ⟨u, ua, uc, ub, ud, hub, hzb, hat, hok, hrun, hbw⟩ := HR.out
      by_cases hlt : k < ops.length
      · obtain ⟨b, off, rfl, hb, hops⟩ := (HO.out.below hbw).resolve_left (by intro e; rw [e] at hlt; simp at hlt)
        obtain ⟨b', off', e', hb', hops0⟩ := HO.out.resolve_left (by intro e; rw [e] at hlt; simp at hlt)
        obtain ⟨pa, pc, oa, oc, ob, od, hin, hpl, hpt, hoat⟩ := hops0 k hlt
        obtain ⟨rfl, rfl⟩ : b = b' ∧ off = off' := by injection e' with e'; injection e' with e1 e2; exact ⟨e1, e2⟩
        have hro := HR50.out.2 _ (List.getElem_mem hlt)
        have hoo := HV.out.2.2 _ (List.getElem_mem hlt) hro
        have hdrop := List.drop_eq_getElem_cons hlt
        obtain ⟨o, ho⟩ : ∃ o, o = ops[k] := ⟨_, rfl⟩
        rw [← ho] at hin hpl hpt hoat hro hoo hdrop
        have hpn : 1 ≤ o.path.length := by
          unfold rightO at hro
          rw [Bool.and_eq_true] at hro
          exact of_decide_eq_true hro.1
        obtain ⟨pb, poff, rfl, hstr⟩ := hpt.resolve_left (by intro e; rw [e] at hpn; simp at hpn)
        obtain ⟨p0, p1, p2, p3, p4, p5, p6, p7⟩ := (hin.keep (hbw.block b hb')).eight
        rw [hdrop] at hrun
        have hA : Below wr.heap.size wr (wr.alloc (.cells #[.int .i64 o.kind, .slice (some ⟨pb, poff, none⟩) o.path.length pc, .int .i64 o.val.kind, .bool o.val.yes, .int .i64 o.val.num, .string o.val.text, .slice oa o.val.list.length oc, .slice ob o.val.fields.length od] 50)) := (Below.refl _ wr).alloc (Nat.le_refl _) _
        have hbA := hbw.trans (hA.mono hbw.size)
        have hcall := along_all o o.path hpn u (some ⟨pb, poff, none⟩) o.path.length pc oa oc ob od ua uc ub ud pb poff pc (K + k) (wr.alloc (.cells #[.int .i64 o.kind, .slice (some ⟨pb, poff, none⟩) o.path.length pc, .int .i64 o.val.kind, .bool o.val.yes, .int .i64 o.val.num, .string o.val.text, .slice oa o.val.list.length oc, .slice ob o.val.fields.length od] 50)) (fun q => (q < w.heap.size ∨ w.heap.size + 2 ≤ q) ∧ q < (wr.alloc (.cells #[.int .i64 o.kind, .slice (some ⟨pb, poff, none⟩) o.path.length pc, .int .i64 o.val.kind, .bool o.val.yes, .int .i64 o.val.num, .string o.val.text, .slice oa o.val.list.length oc, .slice ob o.val.fields.length od] 50)).heap.size) (fun q hq => hq.2)
          (V.At.move (fun q hq hl => ⟨⟨hq, Nat.lt_of_lt_of_le hl hA.size⟩, hA.block q hl⟩) hA.size _ (Nat.le_refl _) hat)
          (V.At.move (fun q _ hl => ⟨⟨.inl hl, Nat.lt_of_lt_of_le hl hbA.size⟩, hbA.block q hl⟩) hbA.size _ (Nat.le_refl _) hoat)
          (hstr.below hbA) hpl.1 hpl.2 hok (by have := HR50.out.1; omega) (okv_iff.1 hoo).1.2.2.2
        have hkl : (k : Int) < (ops.length : Int) := by omega
        obtain ⟨⟨u0, u1, u2, u3, u4, u5⟩, fu0, fu1, fu2, fu3, fu4, fu5⟩ := hub.six
        have hul := hub.lt
        have HCALL := Lib.hid hcall
        have HLT := Lib.hid hlt
        have HW2 : Hid (∀ w2, Below (wr.alloc (.cells #[.int .i64 o.kind, .slice (some ⟨pb, poff, none⟩) o.path.length pc, .int .i64 o.val.kind, .bool o.val.yes, .int .i64 o.val.num, .string o.val.text, .slice oa o.val.list.length oc, .slice ob o.val.fields.length od] 50)).heap.size (wr.alloc (.cells #[.int .i64 o.kind, .slice (some ⟨pb, poff, none⟩) o.path.length pc, .int .i64 o.val.kind, .bool o.val.yes, .int .i64 o.val.num, .string o.val.text, .slice oa o.val.list.length oc, .slice ob o.val.fields.length od] 50)) w2 → Box w2 w.heap.size 26 #[.int .i64 u.kind, .bool u.yes, .int .i64 u.num, .string u.text, .slice ua u.list.length uc, .slice ub u.fields.length ud] ∧ Box w2 (w.heap.size + 1) 26 #[.int .i64 0, .bool false, .int .i64 0, .string ⟨#[]⟩, .slice none 0 0, .slice none 0 0] ∧ Below w.heap.size w w2) := Lib.hid fun w2 hb2 =>
          ⟨(hb2.block _ (Nat.lt_of_lt_of_le hub.lt hA.size)).trans ((hA.block _ hub.lt).trans hub), (hb2.block _ (Nat.lt_of_lt_of_le hzb.lt hA.size)).trans ((hA.block _ hzb.lt).trans hzb), hbA.trans (hb2.mono hbA.size)⟩
        have HOK := Lib.hid (And.intro hok (And.intro (hoo.mono (Nat.le_add_right K k)) hrun))
        have hsz : w.heap.size + 2 ≤ (wr.alloc (.cells #[.int .i64 o.kind, .slice (some ⟨pb, poff, none⟩) o.path.length pc, .int .i64 o.val.kind, .bool o.val.yes, .int .i64 o.val.num, .string o.val.text, .slice oa o.val.list.length oc, .slice ob o.val.fields.length od] 50)).heap.size := by have := hzb.lt; have := hA.size; omega
        have HSZ := Lib.hid hsz
        clear hin hpl hpt hoat hro hoo hdrop ho hpn hstr hA hbA hcall hat hok hrun hbw hub hzb hops hops0 hb hb' e' HR hlt hsz
        go_wp2_with fail
        refine HCALL.out.mono ?_
        rintro e w2 ⟨hb2, hres⟩
        obtain ⟨hub, hzb, hbw⟩ := HW2.out w2 hb2
        cases hal : alongV o o.path u with
        | error cc =>
          rw [hal] at hres
          obtain ⟨hcc, rfl⟩ := hres
          have g1 : (cc != 0) = true := by simp [hcc]
          have hrv : runV ops v = .error cc := by rw [← HOK.out.2.2, runV, hal]
          obtain ⟨k0, k1, k2, k3, k4, k5⟩ := box_ends_alloc (c0 := .int .i64 0) (c1 := .bool false) (c2 := .int .i64 0) (c3 := .string ⟨#[]⟩) (c4 := .slice none 0 0) (c5 := .slice none 0 0) hzb (.cells #[.int .i64 0, .bool false, .int .i64 0, .string ⟨#[]⟩, .slice none 0 0, .slice none 0 0] 26)
          simp only [sets, Nat.zero_add, Nat.reduceAdd] at k0 k1 k2 k3 k4 k5
          have HF : Hid (ResP R0 (fun _ => False) w (.returned (.tuple #[.agg #[.int .i64 0, .bool false, .int .i64 0, .string ⟨#[]⟩, .slice none 0 0, .slice none 0 0], .int .i64 cc])) ((sets w2 (w.heap.size + 1) 0 [.int .i64 0, .bool false, .int .i64 0, .string ⟨#[]⟩, .slice none 0 0, .slice none 0 0]).alloc (.cells #[.int .i64 0, .bool false, .int .i64 0, .string ⟨#[]⟩, .slice none 0 0, .slice none 0 0] 26))) := Lib.hid (by rw [HR0.out, hrv]; exact ⟨below_ends_alloc hbw (by omega) _ _, hcc, rfl⟩)
          obtain ⟨⟨z0, z1, z2, z3, z4, z5⟩, s0, s1, s2, s3, s4, s5⟩ := hzb.six
          have hzl := hzb.lt
          clear u0 u1 u2 u3 u4 u5 fu0 fu1 fu2 fu3 fu4 fu5 hul hb2 hub hzb hbw hrv hcc hal HW2 HCALL HOK HO HV
          go_wp2
          refine bodyPost_ret (v := .tuple #[.agg #[.int .i64 0, .bool false, .int .i64 0, .string ⟨#[]⟩, .slice none 0 0, .slice none 0 0], .int .i64 cc]) (by simp [results, Try.results21, go_sem, k0, k1, k2, k3, k4, k5]) rfl HF.out
        | ok y =>
          rw [hal] at hres
          obtain ⟨ya, yc, yb, yd, rfl, hyat⟩ := hres
          have hrv : runV (ops.drop (k + 1)) y = runV ops v := by rw [← HOK.out.2.2, runV, hal]
          have hyok : y.okv (K + (k + 1)) := alongV_okv HOK.out.2.1 o.path u y HOK.out.1 hal
          have hAP : AP w ops v K (k + 1) ((sets w2 w.heap.size 0 [.int .i64 y.kind, .bool y.yes, .int .i64 y.num, .string y.text, .slice ya y.list.length yc, .slice yb y.fields.length yd]).alloc (.cells #[.int .i64 y.kind, .bool y.yes, .int .i64 y.num, .string y.text, .slice ya y.list.length yc, .slice yb y.fields.length yd] 26)) :=
            ⟨y, ya, yc, yb, yd, (box_sets6 hub _ _ _ _ _ _).alloc _, Box.alloc (show Box (sets w2 w.heap.size 0 [.int .i64 y.kind, .bool y.yes, .int .i64 y.num, .string y.text, .slice ya y.list.length yc, .slice yb y.fields.length yd]) (w.heap.size + 1) 26 #[.int .i64 0, .bool false, .int .i64 0, .string ⟨#[]⟩, .slice none 0 0, .slice none 0 0] from (sets_far _ _ _ _ (by omega)).trans hzb) _, at_ends_alloc hyat (fun q hq => by
              have h9 := HSZ.out
              rcases hq with ⟨hq, _⟩ | hq
              · exact ⟨by omega, hq⟩
              · exact ⟨by omega, .inr (by omega)⟩) _ _, hyok, hrv, below_ends_alloc hbw (Nat.le_refl _) _ _⟩
          have HAP := Lib.hid hAP
          clear u0 u1 u2 u3 u4 u5 fu0 fu1 fu2 fu3 fu4 fu5 hul
          obtain ⟨⟨u0, u1, u2, u3, u4, u5⟩, fu0, fu1, fu2, fu3, fu4, fu5⟩ := hub.six
          have hul := hub.lt
          clear hb2 hub hzb hbw hrv hyok hal hyat hAP HW2 HCALL HOK HSZ
          go_wp2
          go_roundw
          case rel => exact ⟨k + 1, by have := HLT.out; omega, by have := HLT.out; go_num, HAP⟩
          case measure => have := HLT.out; simp [intOf]; omega
      · obtain rfl : k = ops.length := by omega
        have hge : ¬ (ops.length : Int) < (ops.length : Int) := by omega
        rw [List.drop_length, runV] at hrun
        have hright := right_any u _ _ wr hat.is
        have hpost : R0 = (if u.right 32 = true then .ok u else .error 3 : Except Int V) := by rw [HR0.out, ← hrun]
        have HPO := Lib.hid hpost
        obtain ⟨rr, hrr⟩ : ∃ rr, rr = u.right 32 := ⟨_, rfl⟩
        rw [← hrr] at hright HPO
        have HRI := Lib.hid hright
        have HAT := Lib.hid (And.intro hat.is (And.intro hok (And.intro hub (And.intro hzb hbw))))
        obtain ⟨⟨u0, u1, u2, u3, u4, u5⟩, _⟩ := hub.six
        have hul := hub.lt
        clear hat hok hrun hbw hub hzb hright hpost hrr HR hlt HO HV
        go_wp2_with fail
        refine HRI.out.mono ?_
        rintro e w3 ⟨rfl, hb3⟩
        obtain ⟨hat, hok, hub, hzb, hbw⟩ := HAT.out
        have hub3 : Box w3 w.heap.size 26 #[.int .i64 u.kind, .bool u.yes, .int .i64 u.num, .string u.text, .slice ua u.list.length uc, .slice ub u.fields.length ud] := (hb3.block _ hub.lt).trans hub
        have hzb3 : Box w3 (w.heap.size + 1) 26 #[.int .i64 0, .bool false, .int .i64 0, .string ⟨#[]⟩, .slice none 0 0, .slice none 0 0] := (hb3.block _ hzb.lt).trans hzb
        have hb03 := hbw.trans (hb3.mono hbw.size)
        cases rr with
        | false =>
          obtain ⟨k0, k1, k2, k3, k4, k5⟩ := box_ends (c0 := .int .i64 0) (c1 := .bool false) (c2 := .int .i64 0) (c3 := .string ⟨#[]⟩) (c4 := .slice none 0 0) (c5 := .slice none 0 0) hzb3
          simp only [sets, Nat.zero_add, Nat.reduceAdd] at k0 k1 k2 k3 k4 k5
          have HF : Hid (ResP R0 (fun _ => False) w (.returned (.tuple #[.agg #[.int .i64 0, .bool false, .int .i64 0, .string ⟨#[]⟩, .slice none 0 0, .slice none 0 0], .int .i64 3])) (sets w3 (w.heap.size + 1) 0 [.int .i64 0, .bool false, .int .i64 0, .string ⟨#[]⟩, .slice none 0 0, .slice none 0 0])) := Lib.hid (by rw [HPO.out]; exact ⟨below_ends hb03 (by omega) _, by decide, rfl⟩)
          obtain ⟨⟨z0, z1, z2, z3, z4, z5⟩, s0, s1, s2, s3, s4, s5⟩ := hzb3.six
          have hzl := hzb3.lt
          clear u0 u1 u2 u3 u4 u5 hul hat hok hub hzb hbw hub3 hzb3 hb03 hb3 HPO HRI HAT
          go_wp2
          refine bodyPost_ret (v := .tuple #[.agg #[.int .i64 0, .bool false, .int .i64 0, .string ⟨#[]⟩, .slice none 0 0, .slice none 0 0], .int .i64 3]) (by simp [results, Try.results21, go_sem, k0, k1, k2, k3, k4, k5]) rfl HF.out
        | true =>
          have hcl := pclone_any u ua uc ub ud w3 (hat.below hb3) (hok.sm (by have := HR50.out.1; omega))
          have HCL := Lib.hid hcl
          have HH := Lib.hid (And.intro hzb3 hb03)
          clear u0 u1 u2 u3 u4 u5 hul
          obtain ⟨⟨u0, u1, u2, u3, u4, u5⟩, _⟩ := hub3.six
          have hul := hub3.lt
          clear hat hok hub hzb hbw hub3 hzb3 hb03 hb3 HRI HAT hcl
          go_wp2_with fail
          refine HCL.out.mono ?_
          rintro e w4 ⟨ca, cc, cb, cd, rfl, hcat, hb4⟩
          have hzb4 : Box w4 (w.heap.size + 1) 26 #[.int .i64 0, .bool false, .int .i64 0, .string ⟨#[]⟩, .slice none 0 0, .slice none 0 0] := (hb4.block _ HH.out.1.lt).trans HH.out.1
          have hb04 := HH.out.2.trans (hb4.mono HH.out.2.size)
          have hw3 : w.heap.size + 2 ≤ w3.heap.size := by have := HH.out.1.lt; omega
          obtain ⟨k0, k1, k2, k3, k4, k5⟩ := box_ends (c0 := .int .i64 u.kind) (c1 := .bool u.yes) (c2 := .int .i64 u.num) (c3 := .string u.text) (c4 := .slice ca u.list.length cc) (c5 := .slice cb u.fields.length cd) hzb4
          simp only [sets, Nat.zero_add, Nat.reduceAdd] at k0 k1 k2 k3 k4 k5
          have HF : Hid (ResP R0 (fun _ => False) w (.returned (.tuple #[.agg #[.int .i64 u.kind, .bool u.yes, .int .i64 u.num, .string u.text, .slice ca u.list.length cc, .slice cb u.fields.length cd], .int .i64 0])) (sets w4 (w.heap.size + 1) 0 [.int .i64 u.kind, .bool u.yes, .int .i64 u.num, .string u.text, .slice ca u.list.length cc, .slice cb u.fields.length cd])) := Lib.hid (by rw [HPO.out]; exact ⟨below_ends hb04 (by omega) _, ca, cc, cb, cd, rfl, at_ends hcat (fun q hq => ⟨by omega, .inr (by omega)⟩) _⟩)
          obtain ⟨⟨z0, z1, z2, z3, z4, z5⟩, s0, s1, s2, s3, s4, s5⟩ := hzb4.six
          have hzl := hzb4.lt
          clear u0 u1 u2 u3 u4 u5 hul hcat hb4 hzb4 hb04 HPO HCL HH hw3
          go_wp2
          refine bodyPost_ret (v := .tuple #[.agg #[.int .i64 u.kind, .bool u.yes, .int .i64 u.num, .string u.text, .slice ca u.list.length cc, .slice cb u.fields.length cd], .int .i64 0]) (by simp [results, Try.results21, go_sem, k0, k1, k2, k3, k4, k5]) rfl HF.out
  · have HNZ : Hid (applyV v ops = .error (checkV ops)) := Lib.hid (by unfold applyV; rw [if_pos hc0])
    obtain ⟨cc, hcc⟩ : ∃ cc, cc = checkV ops := ⟨_, rfl⟩
    rw [← hcc] at HCK hc0 HNZ
    have g1 : (cc != 0) = true := by simp [hc0]
    have HC0 := Lib.hid hc0
    rw [HNZ.out]
    clear hcc hc0 HNZ HO HV
    go_enter Try.func21, Try.ntmps21
    go_wp2_with fail
    refine HCK.out.mono ?_
    rintro e w1 ⟨rfl, hb1⟩
    have hzb := (hb1.block _ HB.out.2.2.lt).trans HB.out.2.2
    have hzb : Box w1 (w.heap.size + 1) 26 #[.int .i64 0, .bool false, .int .i64 0, .string ⟨#[]⟩, .slice none 0 0, .slice none 0 0] := hzb
    have hb01 := HB.out.1.trans (hb1.mono HB.out.1.size)
    obtain ⟨k0, k1, k2, k3, k4, k5⟩ := box_ends (c0 := .int .i64 0) (c1 := .bool false) (c2 := .int .i64 0) (c3 := .string ⟨#[]⟩) (c4 := .slice none 0 0) (c5 := .slice none 0 0) hzb
    simp only [sets, Nat.zero_add, Nat.reduceAdd] at k0 k1 k2 k3 k4 k5
    have HF : Hid (ResP (.error cc) (fun _ => False) w (.returned (.tuple #[.agg #[.int .i64 0, .bool false, .int .i64 0, .string ⟨#[]⟩, .slice none 0 0, .slice none 0 0], .int .i64 cc])) (sets w1 (w.heap.size + 1) 0 [.int .i64 0, .bool false, .int .i64 0, .string ⟨#[]⟩, .slice none 0 0, .slice none 0 0])) := Lib.hid ⟨below_ends hb01 (by omega) _, HC0.out, rfl⟩
    obtain ⟨⟨z0, z1, z2, z3, z4, z5⟩, s0, s1, s2, s3, s4, s5⟩ := hzb.six
    have hzl := hzb.lt
    clear hb1 hzb hb01 HB HCK
    go_wp2
    refine bodyPost_ret (v := .tuple #[.agg #[.int .i64 0, .bool false, .int .i64 0, .string ⟨#[]⟩, .slice none 0 0, .slice none 0 0], .int .i64 cc]) (by simp [results, Try.results21, go_sem, k0, k1, k2, k3, k4, k5]) rfl HF.out

end Go.Proofs.Ytljhcnlifdmacaa
end

section
namespace Go.Proofs.Ytljhcnlifdmacaa
open Go.RowKit

theorem kept_one1 (x : FC) : keptF #[x] = [x] := by
  have h : sortF #[x] = #[x] := by
    unfold sortF Sort.insertionSort
    rw [Sort.insOuter, if_neg (by simp)]
  unfold keptF
  rw [h]
  simp [lastsTo]

/-- OfMap of one field that lies in a new block -/
theorem ofMap_one (n : ByteArray) (x : V) (a : Option Addr) (c : Nat) (a' : Option Addr) (c' : Nat) (w : World) (hx : x.Is w (.slice a x.list.length c) (.slice a' x.fields.length c')) (hsm : x.sm) (W : World) (hW : W = w.alloc (.cells #[.string n, .int .i64 x.kind, .bool x.yes, .int .i64 x.num, .string x.text, .slice a x.list.length c, .slice a' x.fields.length c'] 30)) :
    Calls Try.prog 12 #[.slice (some ⟨w.heap.size, 0, none⟩) 1 1] W fun e w' => ∃ fa fc, e = .returned (.agg #[.int .i64 5, .bool false, .int .i64 0, .string ⟨#[]⟩, .slice none 0 0, .slice fa 1 fc]) ∧ (V.ofMap [(n, x)]).At w' (fun q => W.heap.size ≤ q) (.slice none 0 0) (.slice fa 1 fc) ∧ Below W.heap.size W w' := by
  have hA : Below w.heap.size w W := by rw [hW]; exact (Below.refl _ w).alloc (Nat.le_refl _) _
  have hbx : Box W w.heap.size 30 #[.string n, .int .i64 x.kind, .bool x.yes, .int .i64 x.num, .string x.text, .slice a x.list.length c, .slice a' x.fields.length c'] := by rw [hW]; exact Box.new w _ _
  have h := ofMap_some w.heap.size 0 1 #[⟨n, x, a, c, a', c'⟩] (by simp) (by simp) W hbx.lt (fun i hi => by
    obtain rfl : i = 0 := by simp at hi; omega
    intro j u hj
    rw [Nat.zero_add, hbx.cell]
    simpa [FC.enc] using hj) (fun i hi => by
    obtain rfl : i = 0 := by simp at hi; omega
    exact V.Is.below hx hA) (fun y hy => by
    obtain rfl : y = ⟨n, x, a, c, a', c'⟩ := by simpa using hy
    exact hsm)
  rw [kept_one1] at h
  refine h.mono ?_
  rintro e w' ⟨fv, rfl, hat, hb⟩
  obtain ⟨_, fa, fc, e1, _⟩ := V.at_iff.1 hat
  have e2 : fv = .slice fa 1 fc := e1
  subst e2
  exact ⟨fa, fc, rfl, hat, hb⟩

theorem ofMap_okv1 (n : ByteArray) (x : V) (k : Nat) (hx : x.okv k) (hk : 1 ≤ k) : (V.ofMap [(n, x)]).okv k :=
  okv_iff.2 ⟨⟨Nat.zero_le _, hk, List.pairwise_singleton _ _, by show Is64 0; unfold Is64; omega⟩, (fun y hy => by cases hy), (fun p hp => by
    have e : p = (n, x) := by simpa [V.ofMap, V.fields] using hp
    rw [e]
    exact hx)⟩

theorem head_app : applyV (V.ofMap [(⟨#[110]⟩, intV 5)]) [⟨3, [⟨#[110]⟩], intV 2⟩] = .ok (V.ofMap [(⟨#[110]⟩, intV 7)]) := by
  kernel_rfl

/-- one operation in a new block, its path of one name in a block of its own -/
theorem op_at {W : World} {pb g : Nat} {k : Int} {n : ByteArray} {x : V} {a : Option Addr} {c : Nat} {a' : Option Addr} {c' : Nat} (hs : Box W pb 9 #[.string n]) (hb : Box W g 50 #[.int .i64 k, .slice (some ⟨pb, 0, none⟩) 1 1, .int .i64 x.kind, .bool x.yes, .int .i64 x.num, .string x.text, .slice a x.list.length c, .slice a' x.fields.length c']) (hx : x.Is W (.slice a x.list.length c) (.slice a' x.fields.length c')) :
    OpsAt W All (some ⟨g, 0, none⟩) [⟨k, [n], x⟩] :=
  .inr ⟨g, 0, rfl, hb.lt, fun i hi => by
    obtain rfl : i = 0 := by simp at hi; omega
    refine ⟨some ⟨pb, 0, none⟩, 1, a, c, a', c', fun j u hj => ?_, ⟨Nat.le_refl _, by unfold maxLen; omega⟩, .inr ⟨pb, 0, rfl, hs.lt, fun j hj => ?_⟩, hx⟩
    · rw [Nat.zero_mul, Nat.zero_add, hb.cell]
      simpa using hj
    · obtain rfl : j = 0 := by simp at hj; omega
      rw [hs.cell]
      rfl⟩

theorem head_k {w w5 w6 : World} {ca : Option Addr} {cc : Nat} {cb : Option Addr} {cd : Nat} (H : ∀ W, Below (w5.alloc (.cells #[.int .i64 5, .bool false, .int .i64 0, .string ⟨#[]⟩, .slice ca 0 cc, .slice cb 1 cd] 26)).drew.heap.size (w5.alloc (.cells #[.int .i64 5, .bool false, .int .i64 0, .string ⟨#[]⟩, .slice ca 0 cc, .slice cb 1 cd] 26)).drew W → Box W w5.heap.size 26 #[.int .i64 5, .bool false, .int .i64 0, .string ⟨#[]⟩, .slice ca 0 cc, .slice cb 1 cd] ∧ (V.ofMap [(⟨#[110]⟩, intV 7)]).Is W (.slice ca 0 cc) (.slice cb 1 cd) ∧ Below w.heap.size w W)
    (hb6 : Below (w5.alloc (.cells #[.int .i64 5, .bool false, .int .i64 0, .string ⟨#[]⟩, .slice ca 0 cc, .slice cb 1 cd] 26)).drew.heap.size (w5.alloc (.cells #[.int .i64 5, .bool false, .int .i64 0, .string ⟨#[]⟩, .slice ca 0 cc, .slice cb 1 cd] 26)).drew w6) :
    ∀ w7 ga gc, (V.ofMap [(⟨#[110]⟩, intV 7)]).Is w7 (.slice none 0 0) (.slice ga 1 gc) → Below (w6.alloc (.cells #[.string ⟨#[110]⟩, .int .i64 (intV 7).kind, .bool (intV 7).yes, .int .i64 (intV 7).num, .string (intV 7).text, .slice none (intV 7).list.length 0, .slice none (intV 7).fields.length 0] 30)).heap.size (w6.alloc (.cells #[.string ⟨#[110]⟩, .int .i64 (intV 7).kind, .bool (intV 7).yes, .int .i64 (intV 7).num, .string (intV 7).text, .slice none (intV 7).list.length 0, .slice none (intV 7).fields.length 0] 30)) w7 →
      Box w7 w5.heap.size 26 #[.int .i64 5, .bool false, .int .i64 0, .string ⟨#[]⟩, .slice ca 0 cc, .slice cb 1 cd] ∧ Calls Try.prog 26 #[.agg #[.int .i64 5, .bool false, .int .i64 0, .string ⟨#[]⟩, .slice ca 0 cc, .slice cb 1 cd], .agg #[.int .i64 5, .bool false, .int .i64 0, .string ⟨#[]⟩, .slice none 0 0, .slice ga 1 gc]] w7 (fun e w' => e = .returned (.bool true) ∧ Below w7.heap.size w7 w') ∧ ∀ w8, Below w7.heap.size w7 w8 → Below w.heap.size w w8 := fun w7 ga gc hat7 hb7 => by
  have hA6 : Below w6.heap.size w6 (w6.alloc (.cells #[.string ⟨#[110]⟩, .int .i64 (intV 7).kind, .bool (intV 7).yes, .int .i64 (intV 7).num, .string (intV 7).text, .slice none (intV 7).list.length 0, .slice none (intV 7).fields.length 0] 30)) := (Below.refl _ w6).alloc (Nat.le_refl _) _
  have hb67 : Below w6.heap.size w6 w7 := hA6.trans (hb7.mono hA6.size)
  obtain ⟨h1, h2, h3⟩ := H w7 (hb6.trans (hb67.mono hb6.size))
  have hs := same_any (V.ofMap [(⟨#[110]⟩, intV 7)]) (V.ofMap [(⟨#[110]⟩, intV 7)]) _ _ _ _ w7 h2 hat7
  rw [cmp_self] at hs
  exact ⟨h1, hs, fun w8 hb8 => h3.trans (hb8.mono h3.size)⟩

set_option maxHeartbeats 4000000 in
set_option maxRecDepth 100000 in
theorem head8_any (w : World) : Calls Try.prog 17 #[] w fun e w' => e = .returned (.bool true) ∧ Below w.heap.size w w' := by
  go_enter Try.func17, Try.ntmps17
  go_wp2_with fail
  refine (ofInt_any 5 _).mono ?_
  rintro e w1 ⟨rfl, hb1⟩
  have HB1 := Lib.hid hb1
  clear hb1
  go_wp2_with fail
  refine (ofMap_one ⟨#[110]⟩ (intV 5) none 0 none 0 w1 (intV_is 5 w1 All) ((intV_okv (n := 5) (by unfold Is64; omega) 1).sm (by omega)) _ rfl).mono ?_
  rintro e w2 ⟨fa, fc, rfl, hat2, hb2⟩
  have HB2 := Lib.hid (HB1.out.trans ((((Below.refl _ w1).alloc (Nat.le_refl _) _).trans (hb2.mono (by simp))).mono HB1.out.size))
  have HA2 := Lib.hid hat2.is
  clear hb2 hat2
  go_wp2_with fail
  refine (ofInt_any 2 _).mono ?_
  rintro e w3 ⟨rfl, hb3⟩
  have hs3 : Below w2.heap.size w2 (w2.alloc (.cells #[.string ⟨#[110]⟩] 9)) := (Below.refl _ w2).alloc (Nat.le_refl _) _
  have hbs : Box w3 w2.heap.size 9 #[.string ⟨#[110]⟩] := (hb3.block _ (by simp)).trans (Box.new w2 _ _)
  have hb23 : Below w2.heap.size w2 w3 := hs3.trans (hb3.mono hs3.size)
  have hA4 : Below w3.heap.size w3 (w3.alloc (.cells #[.int .i64 3, .slice (some ⟨w2.heap.size, 0, none⟩) 1 1, .int .i64 2, .bool false, .int .i64 2, .string ⟨#[]⟩, .slice none 0 0, .slice none 0 0] 50)) := (Below.refl _ w3).alloc (Nat.le_refl _) _
  have hops : OpsAt (w3.alloc (.cells #[.int .i64 3, .slice (some ⟨w2.heap.size, 0, none⟩) 1 1, .int .i64 2, .bool false, .int .i64 2, .string ⟨#[]⟩, .slice none 0 0, .slice none 0 0] 50)) All (some ⟨w3.heap.size, 0, none⟩) [⟨3, [⟨#[110]⟩], intV 2⟩] := op_at (hbs.alloc _) (Box.new w3 _ _) (intV_is 2 _ All)
  have hcall := apply_any (V.ofMap [(⟨#[110]⟩, intV 5)]) [⟨3, [⟨#[110]⟩], intV 2⟩] none 0 fa fc (some ⟨w3.heap.size, 0, none⟩) 1 1 (w3.alloc (.cells #[.int .i64 3, .slice (some ⟨w2.heap.size, 0, none⟩) 1 1, .int .i64 2, .bool false, .int .i64 2, .string ⟨#[]⟩, .slice none 0 0, .slice none 0 0] 50)) ((HA2.out.below hb23).below hA4) hops (by simp) (ofMap_okv1 _ _ 1 (intV_okv (by unfold Is64; omega) 1) (Nat.le_refl _)) (by omega) (fun o ho _ => by
    have e : o = ⟨3, [⟨#[110]⟩], intV 2⟩ := by simpa using ho
    rw [e]
    exact intV_okv (by unfold Is64; omega) 1)
  rw [head_app] at hcall
  have HC := Lib.hid hcall
  have HB4 := Lib.hid (HB2.out.trans ((hb23.trans (hA4.mono hb23.size)).mono HB2.out.size))
  clear hb3 hs3 hbs hb23 hA4 hops hcall HA2 HB1 HB2
  go_wp2_with fail
  refine HC.out.mono ?_
  rintro e w5 ⟨hb5, ca, cc, cb, cd, rfl, hat5⟩
  have hA5 : Below w5.heap.size w5 (w5.alloc (.cells #[.int .i64 5, .bool false, .int .i64 0, .string ⟨#[]⟩, .slice ca 0 cc, .slice cb 1 cd] 26)).drew := ((Below.refl _ w5).alloc (Nat.le_refl _) _).drew
  have HBX : Hid (∀ W, Below (w5.alloc (.cells #[.int .i64 5, .bool false, .int .i64 0, .string ⟨#[]⟩, .slice ca 0 cc, .slice cb 1 cd] 26)).drew.heap.size (w5.alloc (.cells #[.int .i64 5, .bool false, .int .i64 0, .string ⟨#[]⟩, .slice ca 0 cc, .slice cb 1 cd] 26)).drew W → Box W w5.heap.size 26 #[.int .i64 5, .bool false, .int .i64 0, .string ⟨#[]⟩, .slice ca 0 cc, .slice cb 1 cd] ∧ (V.ofMap [(⟨#[110]⟩, intV 7)]).Is W (.slice ca 0 cc) (.slice cb 1 cd) ∧ Below w.heap.size w W) := Lib.hid fun W hW =>
    ⟨(hW.block _ (show w5.heap.size < (w5.alloc (.cells #[.int .i64 5, .bool false, .int .i64 0, .string ⟨#[]⟩, .slice ca 0 cc, .slice cb 1 cd] 26)).heap.size by simp)).trans (Box.new w5 _ _), V.At.below (V.At.below hat5.is hA5) hW, HB4.out.trans ((hb5.trans ((hA5.trans (hW.mono hA5.size)).mono hb5.size)).mono HB4.out.size)⟩
  clear hb5 hat5 hA5 HC HB4
  go_wp2_with fail
  go_region_with (first
    | (go_at_call 26; refine HSAME.out.mono ?_; rintro e w8 ⟨rfl, hb8⟩; have HF := Lib.hid (HBW.out w8 hb8); clear hb8)
    | (go_at_call 12; refine (ofMap_one ⟨#[110]⟩ (intV 7) none 0 none 0 w6 (intV_is 7 w6 All) ((intV_okv (n := 7) (by unfold Is64; omega) 1).sm (by omega)) _ rfl).mono ?_; rintro e w7 ⟨ga, gc, rfl, hat7, hb7⟩; obtain ⟨b7, hsame, hbw7⟩ := HK6.out w7 ga gc hat7.is hb7; obtain ⟨⟨y0, y1, y2, y3, y4, y5⟩, _⟩ := b7.six; have hy := b7.lt; have HSAME := Lib.hid hsame; have HBW := Lib.hid hbw7; clear hat7 hb7 b7 hsame hbw7)
    | (go_at_call 31; refine (ofInt_any 7 _).mono ?_; rintro e w6 ⟨rfl, hb6⟩; obtain ⟨b6, _, _⟩ := HBX.out w6 hb6; obtain ⟨⟨x0, x1, x2, x3, x4, x5⟩, _⟩ := b6.six; have hx := b6.lt; have HK6 := Lib.hid (head_k HBX.out hb6); clear hb6 b6))
  all_goals
    go_wp2
    go_ret
    exact ⟨rfl, HF.out⟩

end Go.Proofs.Ytljhcnlifdmacaa
end

section
namespace Go.Proofs.Ytljhcnlifdmacaa

theorem rightF_mk {f : List Fd} {d : Int} (hr : RiseP f) (h : ∀ p ∈ f, p.2.right d = true) : rightF none f d = true :=
  rightF_iff.2 fun i hi => ⟨h _ (List.getElem_mem hi), by
    by_cases h0 : 0 < i
    · rw [dif_pos h0]
      exact decide_eq_true (List.pairwise_iff_getElem.1 hr (i - 1) i (by omega) hi (by omega))
    · rw [dif_neg h0]; rfl⟩

theorem right_intV (m : Int) : (intV m).right 32 = true := by rfl
theorem right_intV31 (m : Int) : (intV m).right (32 - 1) = true := by rfl

/-- what the law's Right makes of a value of few parts is right -/
theorem rv_right : ∀ (N : Nat) (v : V) (d r : Int), v.dep ≤ N → v.few d = true → 7 - d ≤ r → v.rv.right r = true
  | 0, v, d, r, hd, _, _ => by
    cases v
    rw [V.dep] at hd
    omega
  | N + 1, .mk k y n t l f, d, r, hd, h, hr => by
    have hdl : ∀ x ∈ l, x.dep ≤ N := fun x hx => by have := dep_list (v := .mk k y n t l f) hx; omega
    have hdf : ∀ p ∈ f, p.2.dep ≤ N := fun p hp => by have := dep_fields (v := .mk k y n t l f) hp; omega
    obtain ⟨h1, h2, h3, h4, h5, h6⟩ := few_parts h
    have hL : rightL (rvL l) (r - 1) = true := by
      rw [rvL_map]
      refine rightL_iff.2 fun x hx => ?_
      obtain ⟨z, hz, rfl⟩ := List.mem_map.1 hx
      exact rv_right N z (d + 1) (r - 1) (hdl z hz) (fewL_iff.1 h5 z hz) (by omega)
    have hF : ∀ p ∈ rvF f, p.2.right (r - 1) = true := by
      rw [rvF_map]
      intro x hx
      obtain ⟨z, hz, rfl⟩ := List.mem_map.1 hx
      exact rv_right N z.2 (d + 1) (r - 1) (hdf z hz) (fewF_iff.1 h6 z hz).2 (by omega)
    have hr1 : decide (1 ≤ r) = true := decide_eq_true (by omega)
    rw [V.rv]
    unfold rvK
    split
    · rw [V.ofBool, V.right, hr1]; rfl
    · split
      · rw [V.ofInt, V.right, hr1]; rfl
      · split
        · rw [V.ofText, V.right, hr1]; rfl
        · split
          · rw [V.ofList, V.right, hr1, hL]; rfl
          · split
            · have hk := keptL_isKept (rvF f)
              rw [V.ofMap, V.right, hr1, rightF_mk hk.1 (fun p hp => hF p (keptL_mem hp))]; rfl
            · rw [V.null, V.right, hr1]; rfl

theorem at_put {f : List Fd} {n : ByteArray} {x : V} (h : RiseP f) : atF (putV f n (some x)) n = atF f n := by
  have h1 := putV_rise (n := n) (o := some x) h
  have hl : (f.take (atF f n)).length = atF f n := by rw [List.length_take]; have := atF_le f n; omega
  have hlen : (putV f n (some x)).length = atF f n + (1 + (f.length - (atF f n + if isF f n then 1 else 0))) := by
    unfold putV
    rw [List.length_append, hl, List.length_append, List.length_drop]
    rfl
  have hat : (putV f n (some x))[atF f n]'(by omega) = (n, x) := by
    unfold putV
    rw [List.getElem_append_right (by omega)]
    simp [hl]
  have h2 := atF_lt (n := n) h1 (atF f n) (by omega)
  rw [hat] at h2
  have h3 : ¬ atF f n < atF (putV f n (some x)) n := fun h => List.lt_irrefl _ (h2.2 h)
  refine Nat.le_antisymm (by omega) ?_
  cases hi : atF f n with
  | zero => exact Nat.zero_le _
  | succ i =>
    have h4 := atF_lt (n := n) h1 i (by omega)
    have h5 : (putV f n (some x))[i]'(by omega) = f[i]'(by have := atF_le f n; omega) := by
      unfold putV
      rw [List.getElem_append_left (by omega), List.getElem_take]
    rw [h5] at h4
    have h6 := (atF_lt (n := n) h i (by have := atF_le f n; omega)).2 (by omega)
    have := h4.1 h6
    omega

theorem get_put {f : List Fd} {n : ByteArray} {x : V} (h : RiseP f) : getF (putV f n (some x)) n = some x := by
  rw [isF_at (putV_rise h), at_put h]
  have hl : (f.take (atF f n)).length = atF f n := by rw [List.length_take]; have := atF_le f n; omega
  have : (putV f n (some x))[atF f n]? = some (n, x) := by
    unfold putV
    rw [List.getElem?_append_right (by omega)]
    simp [hl]
  rw [this]
  simp

theorem put_put {f : List Fd} {n : ByteArray} {x : V} {o : Option V} (h : RiseP f) : putV (putV f n (some x)) n o = putV f n o := by
  have hl : (f.take (atF f n)).length = atF f n := by rw [List.length_take]; have := atF_le f n; omega
  have hs : isF (putV f n (some x)) n = true := by unfold isF; rw [get_put h]; rfl
  have e1 : (putV f n (some x)).take (atF f n) = f.take (atF f n) := by
    unfold putV
    rw [List.take_append_of_le_length (by omega), List.take_of_length_le (by omega)]
  have e2 : (putV f n (some x)).drop (atF f n + 1) = f.drop (atF f n + if isF f n then 1 else 0) := by
    unfold putV
    rw [List.drop_append, List.drop_of_length_le (by omega), List.nil_append, hl, show atF f n + 1 - atF f n = 1 by omega]
    rfl
  rw [show putV (putV f n (some x)) n o = (putV f n (some x)).take (atF (putV f n (some x)) n) ++ ((match o with | some x => [(n, x)] | none => []) ++ (putV f n (some x)).drop (atF (putV f n (some x)) n + if isF (putV f n (some x)) n then 1 else 0)) from rfl, at_put h, hs, if_pos rfl, e1, e2]
  rfl

theorem put_none {f : List Fd} {n : ByteArray} (h : isF f n = false) : putV f n none = f := by
  unfold putV
  rw [h]
  simp

theorem setF_right {v : V} {n : ByteArray} {o : Option V} (hk : v.kind = 5) (h : v.right 32 = true) (ho : ∀ x, o = some x → x.right (32 - 1) = true) : (v.setF (putV v.fields n o)).right 32 = true := by
  have hr := right_rise h
  cases v with
  | mk k y m t l f =>
    obtain rfl : k = 5 := hk
    rw [V.right, Bool.and_eq_true, Bool.and_eq_true, Bool.and_eq_true] at h
    obtain ⟨⟨⟨h1, h2⟩, h3⟩, h4⟩ := h
    have hF : rightF none (putV f n o) (32 - 1) = true := rightF_mk (putV_rise (f := f) hr) fun p hp => by
      rcases putV_mem hp with hp | ⟨x, hx, rfl⟩
      · obtain ⟨i, hi, rfl⟩ := List.getElem_of_mem hp
        exact (rightF_iff.1 h4 i hi).1
      · exact ho x hx
    have hp : plainB (V.mk 5 y m t l (putV f n o)) = true := by
      have h2' : plainP 5 y m t l f = true := h2
      show plainP 5 y m t l (putV f n o) = true
      unfold plainP at h2' ⊢
      rw [Bool.and_eq_true] at h2' ⊢
      exact ⟨h2'.1, by simp⟩
    show (V.mk 5 y m t l (putV f n o)).right 32 = true
    rw [V.right, h1, h3, hF, hp]
    rfl

/-- a list of operations that are right is that -/
theorem check_zero {ops : List PO} (hl : ops.length ≤ 50) (h : ∀ o ∈ ops, rightO o = true) : checkV ops = 0 := by
  unfold checkV
  rw [if_neg (by omega), if_pos (List.all_eq_true.2 h)]

theorem right_set (n : ByteArray) (m : Int) : rightO ⟨1, [n], intV m⟩ = true := rfl
theorem right_setN (n : ByteArray) : rightO ⟨1, [n], V.null⟩ = true := rfl
theorem right_add (n : ByteArray) (m : Int) : rightO ⟨3, [n], intV m⟩ = true := rfl
theorem right_drop (n : ByteArray) : rightO ⟨2, [n], V.null⟩ = true := rfl

theorem app_nomap {v : V} (n : ByteArray) (hk : v.kind ≠ 5) : applyV v [⟨1, [n], V.null⟩] = .error 5 := by
  unfold applyV
  rw [check_zero (by simp) (fun o ho => by rw [show o = ⟨1, [n], V.null⟩ by simpa using ho]; exact right_setN n), if_neg (by simp), runV, alongV, if_pos hk]

theorem app_two {v : V} {n : ByteArray} {m : Int} (hk : v.kind = 5) (h : v.right 32 = true) (hm : Is64 m) :
    applyV v [⟨1, [n], intV 0⟩, ⟨3, [n], intV m⟩] = .ok (v.setF (putV v.fields n (some (intV m)))) := by
  have hr := right_rise h
  have hz : alongV ⟨1, [n], intV 0⟩ [n] v = .ok (v.setF (putV v.fields n (some (intV 0)))) := by
    rw [alongV, if_neg (by simp [hk])]
    unfold lastV
    rw [if_pos rfl]
    rfl
  have hv1 : (v.setF (putV v.fields n (some (intV 0)))).fields = putV v.fields n (some (intV 0)) := rfl
  have hg : getF (putV v.fields n (some (intV 0))) n = some (intV 0) := get_put hr
  have ha : alongV ⟨3, [n], intV m⟩ [n] (v.setF (putV v.fields n (some (intV 0)))) = .ok (v.setF (putV v.fields n (some (intV m)))) := by
    rw [alongV, if_neg (show ¬ (v.setF _).kind ≠ 5 by simp [V.setF, V.kind]; cases v; exact hk), hv1]
    have h1 : valF (putV v.fields n (some (intV 0))) n = intV 0 := by unfold valF; rw [hg]; rfl
    have h2 : isF (putV v.fields n (some (intV 0))) n = true := by unfold isF; rw [hg]; rfl
    rw [h1, h2]
    unfold lastV
    rw [if_neg (show ¬ (3 : Int) = 1 by decide), if_neg (by decide), if_neg (show ¬ (3 : Int) = 2 by decide)]
    unfold addV
    unfold Is64 at hm
    rw [if_neg (by simp [intV, V.kind, V.num]; omega)]
    show Except.ok ((v.setF (putV v.fields n (some (intV 0)))).setF (putV (putV v.fields n (some (intV 0))) n (some (intV ((intV 0).num + m))))) = _
    rw [put_put hr]
    simp [intV, V.num, V.setF, V.kind, V.yes, V.text, V.list]
  unfold applyV
  rw [check_zero (by simp) (fun o ho => by
    rcases List.mem_cons.1 ho with rfl | ho
    · exact right_set n 0
    · rw [show o = ⟨3, [n], intV m⟩ by simpa using ho]; exact right_add n m), if_neg (by simp), runV, hz]
  simp only
  rw [runV, ha]
  simp only
  rw [runV]
  simp only
  rw [if_pos (setF_right hk h (fun x hx => by injection hx with hx; rw [← hx]; exact right_intV31 m))]

theorem app_drop {v : V} {n : ByteArray} (hk : v.kind = 5) (h : v.right 32 = true) (hs : isF v.fields n = true) : applyV v [⟨2, [n], V.null⟩] = .ok (v.setF (putV v.fields n none)) := by
  have hz : alongV ⟨2, [n], V.null⟩ [n] v = .ok (v.setF (putV v.fields n none)) := by
    rw [alongV, if_neg (by simp [hk]), hs]
    unfold lastV
    rw [if_neg (show ¬ (2 : Int) = 1 by decide), if_neg (by decide), if_pos rfl]
    rfl
  unfold applyV
  rw [check_zero (by simp) (fun o ho => by rw [show o = ⟨2, [n], V.null⟩ by simpa using ho]; exact right_drop n), if_neg (by simp), runV, hz]
  simp only
  rw [runV]
  simp only
  rw [if_pos (setF_right hk h (fun x hx => by cases hx))]

/-- what set and add make, and what drop makes of that -/
theorem y_facts {u : V} (nm : ByteArray) {m : Int} {k : Nat} (hk : u.kind = 5) (hr : u.right 32 = true) (ho : u.okv k) (hm : Is64 m) :
    ∃ y z, applyV u [⟨1, [nm], intV 0⟩, ⟨3, [nm], intV m⟩] = .ok y ∧ y.kind = 5 ∧ y.okv (k + 1) ∧ valF y.fields nm = intV m ∧ isF y.fields nm = true ∧ applyV y [⟨2, [nm], V.null⟩] = .ok z ∧ (isF u.fields nm = false → z = u) := by
  have hyg : getF (u.setF (putV u.fields nm (some (intV m)))).fields nm = some (intV m) := get_put (right_rise hr)
  have hs : isF (u.setF (putV u.fields nm (some (intV m)))).fields nm = true := by unfold isF; rw [hyg]; rfl
  have hyr : (u.setF (putV u.fields nm (some (intV m)))).right 32 = true := setF_right hk hr (fun x hx => by injection hx with hx; rw [← hx]; exact right_intV31 m)
  refine ⟨u.setF (putV u.fields nm (some (intV m))), _, app_two hk hr hm, hk, setF_okv ho (fun x hx => by injection hx with hx; rw [← hx]; exact intV_okv hm _), by unfold valF; rw [hyg]; rfl, hs, app_drop hk hyr hs, fun hf => ?_⟩
  show V.mk u.kind u.yes u.num u.text u.list (putV (putV u.fields nm (some (intV m))) nm none) = u
  rw [put_put (right_rise hr), put_none hf]
  exact (V.eta u).symm

end Go.Proofs.Ytljhcnlifdmacaa
end

section
namespace Go.Proofs.Ytljhcnlifdmacaa
open Go.RowKit

/-- Get of a map, of a name that is there or not -/
theorem get_g {W : World} {kf : List Fd} (kk : Int) (hkk : kk = 5) (y : Bool) (m : Int) (t : ByteArray) (ax : Option Addr) (lx cx : Nat) {ma : Option Addr} {n mc : Nat} (hfa : FAt W All kf (.slice ma n mc)) (hsm : ∀ p ∈ kf, p.2.sm) (hlen : kf.length ≤ 100000) (nm : ByteArray) :
    Calls Try.prog 14 #[.agg #[.int .i64 kk, .bool y, .int .i64 m, .string t, .slice ax lx cx, .slice ma n mc], .string nm] W fun e w' =>
      ∃ ga gc gb gd, e = .returned (.tuple #[.agg #[.int .i64 (valF kf nm).kind, .bool (valF kf nm).yes, .int .i64 (valF kf nm).num, .string (valF kf nm).text, .slice ga (valF kf nm).list.length gc, .slice gb (valF kf nm).fields.length gd], .bool (isF kf nm)]) ∧ (valF kf nm).Is w' (.slice ga (valF kf nm).list.length gc) (.slice gb (valF kf nm).fields.length gd) ∧ Below W.heap.size W w' := by
  subst hkk
  refine (get_map y m t ax lx cx kf nm (.slice ma n mc) W hsm hlen hfa).mono ?_
  rintro e w' ⟨hb, h⟩
  rcases h with ⟨x, lv, fv, hg, rfl, hat⟩ | ⟨hg, rfl⟩
  · obtain ⟨⟨ga, gc, rfl⟩, ⟨gb, gd, rfl⟩, _, _⟩ := hat.is.len
    have e1 : valF kf nm = x := by unfold valF; rw [hg]; rfl
    rw [e1]
    exact ⟨ga, gc, gb, gd, by unfold isF; rw [hg]; rfl, hat.is, hb⟩
  · have e1 : valF kf nm = V.null := by unfold valF; rw [hg]; rfl
    rw [e1]
    exact ⟨none, 0, none, 0, by unfold isF; rw [hg]; rfl, none_at _ _ V.null rfl rfl, hb⟩

theorem null_okv (k : Nat) : V.null.okv k := okv_iff.2 ⟨⟨Nat.zero_le _, Nat.zero_le _, List.Pairwise.nil, by show Is64 0; unfold Is64; omega⟩, (fun _ h => by cases h), (fun _ h => by cases h)⟩

/-- one operation with a path of one name, as it lies -/
theorem opAt_one {W : World} {g off pb : Nat} {k : Int} {n : ByteArray} {x : V} {a : Option Addr} {c : Nat} {a' : Option Addr} {c' : Nat} (hs : Box W pb 9 #[.string n]) (hin : InAt W g off [.int .i64 k, .slice (some ⟨pb, 0, none⟩) 1 1, .int .i64 x.kind, .bool x.yes, .int .i64 x.num, .string x.text, .slice a x.list.length c, .slice a' x.fields.length c']) (hx : x.Is W (.slice a x.list.length c) (.slice a' x.fields.length c')) :
    OpAt W All g off ⟨k, [n], x⟩ :=
  ⟨some ⟨pb, 0, none⟩, 1, a, c, a', c', hin, ⟨Nat.le_refl _, by unfold maxLen; omega⟩, .inr ⟨pb, 0, rfl, hs.lt, fun j hj => by
    obtain rfl : j = 0 := by simp at hj; omega
    rw [hs.cell]
    rfl⟩, hx⟩

theorem two_ops {W : World} {g pb : Nat} {k1 k2 a b : Int} {n : ByteArray} (hs : Box W pb 9 #[.string n]) (hb : Box W g 50 #[.int .i64 k1, .slice (some ⟨pb, 0, none⟩) 1 1, .int .i64 2, .bool false, .int .i64 a, .string ⟨#[]⟩, .slice none 0 0, .slice none 0 0, .int .i64 k2, .slice (some ⟨pb, 0, none⟩) 1 1, .int .i64 2, .bool false, .int .i64 b, .string ⟨#[]⟩, .slice none 0 0, .slice none 0 0]) :
    OpsAt W All (some ⟨g, 0, none⟩) [⟨k1, [n], intV a⟩, ⟨k2, [n], intV b⟩] :=
  .inr ⟨g, 0, rfl, hb.lt, fun i hi => by
    match i, hi with
    | 0, _ =>
      refine opAt_one hs (fun j u hj => ?_) (intV_is a W All)
      have hj8 : j < 8 := (List.getElem?_eq_some_iff.1 hj).1
      rw [Nat.zero_mul, Nat.zero_add, hb.cell, ← hj]
      match j, hj8 with
      | 0, _ | 1, _ | 2, _ | 3, _ | 4, _ | 5, _ | 6, _ | 7, _ => rfl
    | 1, _ =>
      refine opAt_one hs (fun j u hj => ?_) (intV_is b W All)
      have hj8 : j < 8 := (List.getElem?_eq_some_iff.1 hj).1
      rw [hb.cell, ← hj]
      match j, hj8 with
      | 0, _ | 1, _ | 2, _ | 3, _ | 4, _ | 5, _ | 6, _ | 7, _ => rfl⟩

end Go.Proofs.Ytljhcnlifdmacaa
end
