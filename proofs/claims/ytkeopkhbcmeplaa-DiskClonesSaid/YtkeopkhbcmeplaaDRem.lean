/-
  disk.Remove, Read, Sync.
-/
import Derived.Test.YtkeopkhbcmeplaaDDrop
namespace Go.Proofs.Ytkeopkhbcmeplaa
open Go.RowKit

theorem look_none {w : World} {B d mb n : Nat} {S : DS} {fs : List FP} (h : DiskAt w B d mb n S fs) (s : ByteArray) (hs : s.size ≤ maxLen) (hg : getP s.data.toList fs = none) :
    (Instr.lookup 61 (.map (some mb)) (.string s) true).run Try.prog w = .ok (.tuple #[.agg #[.slice none 0 0, .int .i64 0], .bool false]) w := by
  have hr := MapAt.look (e := 69) h.2.1 Try.underlying9 Try.underlying61 (zeroFile w) s hs true
  rw [fvals_get, hg] at hr
  exact hr

theorem look_some {w : World} {B d mb n : Nat} {S : DS} {fs : List FP} (h : DiskAt w B d mb n S fs) (s : ByteArray) (hs : s.size ≤ maxLen) (p : FP) (hg : getP s.data.toList fs = some p) :
    ∃ a c, p.2 = .slice a p.1.data.length c ∧ (Instr.lookup 61 (.map (some mb)) (.string s) true).run Try.prog w = .ok (.tuple #[.agg #[.slice a p.1.data.length c, .int .i64 p.1.safe], .bool true]) w := by
  have hr := MapAt.look (e := 69) h.2.1 Try.underlying9 Try.underlying61 (zeroFile w) s hs true
  rw [fvals_get, hg] at hr
  obtain ⟨a, c, e⟩ := Bs.lenEq (h.2.2.1 p (List.mem_of_find?_eq_some hg))
  refine ⟨a, c, e, ?_⟩
  have e2 : fileV p = .agg #[.slice a p.1.data.length c, .int .i64 p.1.safe] := by unfold fileV; rw [e]
  rw [← e2]
  exact hr

theorem DiskAt.foot_lt {w : World} {B d mb n : Nat} {S : DS} {fs : List FP} (h : DiskAt w B d mb n S fs) : ∀ q, Foot d mb fs q → q < w.heap.size := fun q hq => by
  rcases hq with rfl | rfl | ⟨p, hp, hq⟩
  · exact h.1.lt
  · exact h.2.1.lt
  · exact (World.ownsRow.lt (h.2.2.1 p hp) q hq).2
theorem DiskAt.alloc {w : World} {B d mb n : Nat} {S : DS} {fs : List FP} (h : DiskAt w B d mb n S fs) (o : Obj) : DiskAt (w.alloc o) B d mb n S fs := h.keep fun q hq => Below.heap_alloc w o q (h.foot_lt q hq)
theorem DKept.alloc {w w1 : World} {f : Nat → Prop} (h : DKept w w1 f) (o : Obj) : DKept w (w1.alloc o) f := h.trans ⟨rfl, rfl, rfl, by simp, fun q hq _ => Below.heap_alloc w1 o q hq⟩

theorem turn_files {S : DS} : S.turn.2.used = S.used ∧ S.turn.2.room = S.room := by
  unfold DS.turn
  split
  · exact ⟨rfl, rfl⟩
  split
  · exact ⟨rfl, rfl⟩
  split
  · exact ⟨rfl, rfl⟩
  · exact ⟨rfl, rfl⟩

/-- Remove: the answer, and the disk behind it -/
def rmR (S : DS) (fs : List FP) (k : L8) : Int × DS × List FP :=
  if S.turn.1 = false then (8, S.turn.2, fs) else match getP k fs with
    | none => (5, S.turn.2, fs)
    | some _ => (0, { S.turn.2 with used := S.turn.2.used - lenOf k fs }, delP k fs)

set_option maxHeartbeats 2000000 in
theorem remove_any {B d mb n : Nat} {S : DS} {fs : List FP} (w : World) (h : DiskAt w B d mb n S fs) (s : ByteArray) (hs : s.size ≤ maxLen) (hl0 : 0 ≤ S.left) (hl1 : S.left ≤ 9223372036854775807)
    (hu2 : S.used ≤ 1000000000) (hl : (lenOf s.data.toList fs : Int) ≤ S.used) :
    Calls Try.prog 24 #[.pointer (some ⟨d, 0, none⟩), .string s] w fun e w' => e = .returned (.int .i64 (rmR S fs s.data.toList).1) ∧
      DiskAt w' B d mb n (rmR S fs s.data.toList).2.1 (rmR S fs s.data.toList).2.2 ∧ DKept w w' (Foot d mb fs) := by
  have HT := Lib.hid (turn_any w h hl0 hl1)
  have hU := (turn_files (S := S)).1
  obtain ⟨T, hT⟩ : ∃ T, T = S.turn := ⟨_, rfl⟩
  have HR : Hid (rmR S fs s.data.toList = if T.1 = false then ((8 : Int), T.2, fs) else match getP s.data.toList fs with
    | none => (5, T.2, fs)
    | some _ => (0, { T.2 with used := T.2.used - lenOf s.data.toList fs }, delP s.data.toList fs)) := Lib.hid (by rw [hT]; rfl)
  rw [← hT] at HT hU
  have HTT := Lib.hid hT
  clear hT h
  obtain ⟨tb, T2⟩ := T
  simp only at HT HR hU
  cases tb
  · go_enter Try.func24, Try.ntmps24
    go_wp2_with fail
    refine HT.out.mono ?_
    rintro e w1 ⟨rfl, hD1, hK1⟩
    have HD1 := Lib.hid (And.intro hD1 hK1)
    clear hD1 hK1
    go_wp2
    go_ret
    rw [HR.out]
    exact ⟨rfl, HD1.out⟩
  · cases hg : getP s.data.toList fs with
    | none =>
      rw [hg] at HR
      have HG := Lib.hid hg
      clear hg
      go_enter Try.func24, Try.ntmps24
      go_wp2_with fail
      refine HT.out.mono ?_
      rintro e w1 ⟨rfl, hD1, hK1⟩
      have HD1 := Lib.hid (And.intro hD1 hK1)
      obtain ⟨⟨b0, b1, b2, b3, b4, b5⟩, _⟩ := Box.six hD1.1
      have hlk := look_none hD1 s hs HG.out
      clear hD1 hK1
      go_wp2
      go_ret
      rw [HR.out]
      exact ⟨rfl, HD1.out.1.alloc _, HD1.out.2.alloc _⟩
    | some p =>
      rw [hg] at HR
      have HG := Lib.hid hg
      clear hg
      go_enter Try.func24, Try.ntmps24
      go_wp2_with fail
      refine HT.out.mono ?_
      rintro e w1 ⟨rfl, hD1, hK1⟩
      have HD1 := Lib.hid (And.intro hD1 hK1)
      obtain ⟨⟨b0, b1, b2, b3, b4, b5⟩, _⟩ := Box.six hD1.1
      obtain ⟨a1, c1, _, hlk⟩ := look_some hD1 s hs p HG.out
      have HDR := Lib.hid (drop_any _ (hD1.alloc (.cells #[.slice a1 p.1.data.length c1, .int .i64 p.1.safe] 69)) s hs (by rw [hU]; exact hu2) (by rw [hU]; exact hl))
      clear hD1 hK1
      go_wp2_with fail
      refine HDR.out.mono ?_
      rintro e w2 ⟨rfl, hD2, hK2⟩
      have HD2 := Lib.hid (And.intro hD2 ((HD1.out.2.alloc _).trans (hK2.mono fun q hq => foot2 hq)))
      clear hD2 hK2
      go_wp2
      go_ret
      rw [HR.out]
      exact ⟨rfl, HD2.out⟩

end Go.Proofs.Ytkeopkhbcmeplaa
