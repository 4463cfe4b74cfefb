/-
  disk.Truncate.
-/
import Derived.Test.YtkeopkhbcmeplaaDSync
namespace Go.Proofs.Ytkeopkhbcmeplaa
open Go.RowKit

/-- the first bytes of what is owned -/
theorem Bs.take {E B : Nat} {w : World} {a : Option Addr} {c : Nat} {l : List UInt8} (h : Bs E B w (.slice a l.length c) l) (k : Nat) (hk : k ≤ l.length) : Bs E B w (.slice a k c) (l.take k) := by
  have hl : (l.take k).length = k := by rw [List.length_take]; omega
  refine ⟨by simp [Lib.byteCells], ?_⟩
  rw [hl]
  rcases h.2 with ⟨e, h0⟩ | ⟨g, cap, cur, e, h2, h3, h4, h5, h6, h7⟩
  · injection e with e1 e2 e3
    have hk0 : k = 0 := by omega
    exact .inl ⟨by rw [e1, e3, hk0], hk0⟩
  · injection e with e1 e2 e3
    refine .inr ⟨g, cap, cur, by rw [e1, e3], h2, h3, by omega, h5, h6, ?_⟩
    rw [Nat.mul_one] at h7 ⊢
    have : Lib.byteCells (l.take k) = (Lib.byteCells l).take k := by simp [Lib.byteCells, List.map_take]
    rw [this, ← h7, List.take_take]
    congr 1
    omega

/-- Truncate: the answer; whether a file is laid; the disk beside it -/
def trA (S : DS) (fs : List FP) (k : L8) (z : Int) : Int × DS × Option FileS :=
  if S.turn.1 = false then (8, S.turn.2, none) else match getP k fs with
    | none => (5, S.turn.2, none)
    | some p => if z < 0 ∨ (p.1.data.length : Int) < z then (1, S.turn.2, none) else (0, { S.turn.2 with used := S.turn.2.used + (z - (lenOf k fs : Int)) }, some ⟨k, p.1.data.take z.toNat, min p.1.safe z.toNat⟩)

def TrPost (w : World) (B d mb n : Nat) (S : DS) (fs : List FP) (w' : World) : Option FileS → Prop
  | none => DiskAt w' B d mb n S fs ∧ DKept w w' (Foot d mb fs)
  | some f => (∃ sv, DiskAt w' B d mb (n + 1) S (putP (f, sv) fs) ∧ ∀ q, sv.ownBlock = some q → Foot d mb fs q) ∧ DKept w w' (Foot d mb fs)

attribute [local irreducible] wpStill

set_option maxHeartbeats 4000000 in
set_option maxRecDepth 100000 in
theorem truncate_any {B d mb n : Nat} {S : DS} {fs : List FP} (w : World) (h : DiskAt w B d mb n S fs) (s : ByteArray) (hs : s.size ≤ maxLen) (z : Int) (hl0 : 0 ≤ S.left) (hl1 : S.left ≤ 9223372036854775807) (hn : n < 1000000)
    (hu2 : S.used ≤ 1000000000) (hl : (lenOf s.data.toList fs : Int) ≤ S.used) (hsafe : ∀ p ∈ fs, p.1.safe ≤ p.1.data.length) :
    Calls Try.prog 27 #[.pointer (some ⟨d, 0, none⟩), .string s, .int .i64 z] w fun e w' => e = .returned (.int .i64 (trA S fs s.data.toList z).1) ∧
      TrPost w B d mb n (trA S fs s.data.toList z).2.1 fs w' (trA S fs s.data.toList z).2.2 := by
  have HT := Lib.hid (turn_any w h hl0 hl1)
  have hU := (turn_files (S := S)).1
  obtain ⟨T, hT⟩ : ∃ T, T = S.turn := ⟨_, rfl⟩
  obtain ⟨R, hR0⟩ : ∃ R, R = trA S fs s.data.toList z := ⟨_, rfl⟩
  have HR : Hid (R = if T.1 = false then ((8 : Int), T.2, none) else match getP s.data.toList fs with
    | none => (5, T.2, none)
    | some p => if z < 0 ∨ (p.1.data.length : Int) < z then (1, T.2, none) else (0, { T.2 with used := T.2.used + (z - (lenOf s.data.toList fs : Int)) }, some ⟨s.data.toList, p.1.data.take z.toNat, min p.1.safe z.toNat⟩)) := Lib.hid (by rw [hR0, hT]; rfl)
  rw [← hR0]
  rw [← hT] at HT hU
  clear hT h hR0
  obtain ⟨tb, T2⟩ := T
  simp only at HT HR hU
  cases tb
  · have HR2 : Hid (R = ((8 : Int), T2, none)) := Lib.hid (by rw [HR.out]; rfl)
    clear HR
    go_enter Try.func27, Try.ntmps27
    go_wp2_with fail
    refine HT.out.mono ?_
    rintro e w1 ⟨rfl, hD1, hK1⟩
    have HD1 := Lib.hid (And.intro hD1 hK1)
    clear hD1 hK1
    go_wp2
    go_ret
    rw [HR2.out]
    exact ⟨rfl, HD1.out⟩
  · cases hg : getP s.data.toList fs with
    | none =>
      have HR2 : Hid (R = ((5 : Int), T2, none)) := Lib.hid (by rw [HR.out, hg]; rfl)
      have HG := Lib.hid hg
      clear hg HR
      go_enter Try.func27, Try.ntmps27
      go_wp2_with fail
      refine HT.out.mono ?_
      rintro e w1 ⟨rfl, hD1, hK1⟩
      have HD1 := Lib.hid (And.intro hD1 hK1)
      obtain ⟨⟨b0, b1, b2, b3, b4, b5⟩, _⟩ := Box.six hD1.1
      have hlk := look_none hD1 s hs HG.out
      clear hD1 hK1
      go_wp2
      go_ret
      rw [HR2.out]
      exact ⟨rfl, HD1.out.1.alloc _, HD1.out.2.alloc _⟩
    | some p =>
      have HG := Lib.hid hg
      by_cases hz0 : z < 0
      · have HR2 : Hid (R = ((1 : Int), T2, none)) := Lib.hid (by rw [HR.out, hg]; simp [hz0])
        clear hg HR
        go_enter Try.func27, Try.ntmps27
        go_wp2_with fail
        refine HT.out.mono ?_
        rintro e w1 ⟨rfl, hD1, hK1⟩
        have HD1 := Lib.hid (And.intro hD1 hK1)
        obtain ⟨⟨b0, b1, b2, b3, b4, b5⟩, _⟩ := Box.six hD1.1
        obtain ⟨a1, c1, e1, hlk⟩ := look_some hD1 s hs p HG.out
        clear hD1 hK1 e1
        go_wp2
        go_ret
        rw [HR2.out]
        exact ⟨rfl, HD1.out.1.alloc _, HD1.out.2.alloc _⟩
      · by_cases hz1 : (p.1.data.length : Int) < z
        · have HR2 : Hid (R = ((1 : Int), T2, none)) := Lib.hid (by rw [HR.out, hg]; simp [hz1])
          clear hg HR
          go_enter Try.func27, Try.ntmps27
          go_wp2_with fail
          refine HT.out.mono ?_
          rintro e w1 ⟨rfl, hD1, hK1⟩
          have HD1 := Lib.hid (And.intro hD1 hK1)
          obtain ⟨⟨b0, b1, b2, b3, b4, b5⟩, _⟩ := Box.six hD1.1
          obtain ⟨a1, c1, e1, hlk⟩ := look_some hD1 s hs p HG.out
          clear hD1 hK1 e1
          go_wp2
          go_ret
          rw [HR2.out]
          exact ⟨rfl, HD1.out.1.alloc _, HD1.out.2.alloc _⟩
        · obtain ⟨k, hk⟩ : ∃ k : Nat, z = (k : Int) := ⟨z.toNat, by omega⟩
          subst hk
          have hkl : k ≤ p.1.data.length := by omega
          have HR2 : Hid (R = ((0 : Int), { T2 with used := T2.used + ((k : Int) - (lenOf s.data.toList fs : Int)) }, some ⟨s.data.toList, p.1.data.take k, min p.1.safe k⟩)) := Lib.hid (by rw [HR.out, hg]; simp [hz1])
          have hsf := hsafe p (getP_name hg).2
          have hlL : (p.1.data.length : Int) ≤ S.used := by
            have : lenOf s.data.toList fs = p.1.data.length := by unfold lenOf; rw [hg]
            rw [this] at hl; exact hl
          have HLL := Lib.hid hlL
          have HSF := Lib.hid hsf
          have HN := Lib.hid hn
          have HU := Lib.hid hU
          have HU2 := Lib.hid hu2
          have HLQ := Lib.hid hl
          have hz2 : ¬ ((k : Int) < 0) := by omega
          clear hg HR hlL hsf hz0 hz1 hsafe hl
          go_enter Try.func27, Try.ntmps27
          go_wp2_with fail
          refine HT.out.mono ?_
          rintro e w1 ⟨rfl, hD1, hK1⟩
          have HD1 := Lib.hid (And.intro hD1 hK1)
          obtain ⟨⟨b0, b1, b2, b3, b4, b5⟩, _⟩ := Box.six hD1.1
          obtain ⟨a1, c1, e1, hlk⟩ := look_some hD1 s hs p HG.out
          have HE1 := Lib.hid e1
          clear hD1 hK1 e1
          obtain ⟨L, hL⟩ : ∃ L, L = p.1.data.length := ⟨_, rfl⟩
          have HL := Lib.hid hL
          rw [← hL] at hlk hkl
          clear hL hz2 hl0 hl1 hu2 hU hn
          go_wp2_with fail
          have hX : DiskAt (w1.alloc (.cells #[.slice a1 L c1, .int .i64 p.1.safe] 69)).drew B d mb n T2 fs := (HD1.out.1.alloc _).keep fun q _ => rfl
          have hmem := (getP_name HG.out).2
          have hrow := hX.2.2.1 p hmem
          have hown := hX.2.2.2.2.2.2.1 p hmem
          have hoth := hX.other HG.out
          rw [HE1.out] at hrow hown hoth
          have hlk2 : (p.1.data.take k).length = k := by rw [List.length_take, ← HL.out]; omega
          have hrow2 := Bs.take hrow k (by rw [← HL.out]; exact hkl)
          have hsl : ∀ W : World, (Instr.slice 55 (.slice a1 L c1) none (some (.int .i64 (k : Int))) none).run Try.prog W = .ok (.slice a1 k c1) W := by
            rw [← HL.out] at hrow
            have hc : L ≤ c1 := by
              rcases hrow.2 with ⟨e, h0⟩ | ⟨g, cap, cur, e, h2, h3, h4, h5, h6, h7⟩
              · injection e with e1 e2 e3
                omega
              · injection e with e1 e2 e3
                omega
            intro W
            have h1 : (k : Int) ≤ (c1 : Int) := by omega
            clear hrow
            go_simp
          have hob : (Value.slice a1 k c1).ownBlock = (Value.slice a1 p.1.data.length c1).ownBlock := by cases a1 <;> rfl
          have hput := put_any _ hX s hs ⟨s.data.toList, p.1.data.take k, min p.1.safe k⟩ rfl a1 c1 HN.out (by rw [hlk2]; exact hrow2) (by rw [hlk2, hob]; exact hown.1) (by rw [hlk2, hob]; exact hown.2) (by rw [hlk2, hob]; exact hoth) (by rw [HU.out]; exact HU2.out) (by rw [hlk2]; have := HLL.out; have := HU2.out; have := HL.out; omega) (by rw [HU.out]; exact HLQ.out)
          simp only at hput
          rw [hlk2] at hput
          have HFT : Hid (∀ q, (Value.slice a1 k c1).ownBlock = some q → Foot d mb fs q) := Lib.hid fun q hq => .inr (.inr ⟨p, hmem, by rw [HE1.out, ← hob]; exact hq⟩)
          have HPUT := Lib.hid hput
          have HX := Lib.hid hX
          clear hput hX hmem hrow hown hoth hrow2 hlk2 hob
          rcases Nat.lt_or_ge k p.1.safe with hmn | hmn
          · have hmm : min p.1.safe k = k := by omega
            have HPUT2 := HPUT.out
            rw [hmm] at HPUT2
            replace HPUT2 := Lib.hid HPUT2
            rw [hmm] at HR2
            have hmn2 : (k : Int) < (p.1.safe : Int) := by omega
            clear hmm HPUT
            refine wp_region_still_tail 11 (by kernel_rfl) (by kernel_rfl) ?_
            change wpStill _ _ (World.drew _) (fun a' => wpList _ _ _ _ a' (World.drew _)) _ _
            simp only [List.take_succ_cons, List.take_zero, List.drop_succ_cons, List.drop_zero]
            repeat still_step
            refine wpStill_nil ?_
            go_wp2_with fail
            refine HPUT2.out.mono ?_
            rintro e w2 ⟨rfl, hD2, hK2⟩
            have HD2 := Lib.hid (And.intro hD2 ((HD1.out.2.alloc _).trans hK2))
            clear hD2 hK2
            go_wp2
            go_ret
            rw [HR2.out]
            exact ⟨rfl, ⟨_, HD2.out.1, HFT.out⟩, HD2.out.2⟩
          · have hmm : min p.1.safe k = p.1.safe := by omega
            have HPUT2 := HPUT.out
            rw [hmm] at HPUT2
            replace HPUT2 := Lib.hid HPUT2
            rw [hmm] at HR2
            have hmn2 : ¬ (k : Int) < (p.1.safe : Int) := by omega
            clear hmm HPUT
            refine wp_region_still_tail 11 (by kernel_rfl) (by kernel_rfl) ?_
            change wpStill _ _ (World.drew _) (fun a' => wpList _ _ _ _ a' (World.drew _)) _ _
            simp only [List.take_succ_cons, List.take_zero, List.drop_succ_cons, List.drop_zero]
            repeat still_step
            refine wpStill_nil ?_
            go_wp2_with fail
            refine HPUT2.out.mono ?_
            rintro e w2 ⟨rfl, hD2, hK2⟩
            have HD2 := Lib.hid (And.intro hD2 ((HD1.out.2.alloc _).trans hK2))
            clear hD2 hK2
            go_wp2
            go_ret
            rw [HR2.out]
            exact ⟨rfl, ⟨_, HD2.out.1, HFT.out⟩, HD2.out.2⟩

end Go.Proofs.Ytkeopkhbcmeplaa
