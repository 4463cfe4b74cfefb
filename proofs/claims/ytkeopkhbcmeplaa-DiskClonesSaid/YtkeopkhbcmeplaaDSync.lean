/-
  disk.Read, Sync.
-/
import Derived.Test.YtkeopkhbcmeplaaDRem
namespace Go.Proofs.Ytkeopkhbcmeplaa
open Go.RowKit

/-- 'string(v)' of what is owned. -/
theorem conv_bs {P : Program} (E B : Nat) (w : World) (src dst : TypeId) (hs : P.underlying src = some (.slice E)) (he : P.underlying E = some (.int .u8)) (hd : P.underlying dst = some .string) (v : Value) (l : List UInt8) (hown : Bs E B w v l) :
    (convert src dst v).run P w = .ok (.string ⟨l.toArray⟩) w := by
  rcases hown.2 with ⟨rfl, h0⟩ | ⟨g, cap, cur, rfl, _⟩
  · have : l = [] := List.eq_nil_of_length_eq_zero h0
    subst this
    exact run_convert_bytes_nil (P := P) w src E hs he 0 0 dst hd
  · exact run_convert_bytes_back (P := P) w src dst E _ cap l hs he hd fun j hj => World.ownsRow.cells hown (g := g) rfl j _ (by simp [Lib.byteCells, hj])

theorem pair_of {R : FP → FP → Prop} (hsym : ∀ a b, R a b → R b a) : ∀ {fs : List FP}, fs.Pairwise R → ∀ a ∈ fs, ∀ b ∈ fs, a.1.name ≠ b.1.name → R a b
  | [], _, a, ha, _, _, _ => by cases ha
  | x :: r, h, a, ha, b, hb, hne => by
    have h1 := List.pairwise_cons.1 h
    rcases List.mem_cons.1 ha with ea | ha2
    · rcases List.mem_cons.1 hb with eb | hb2
      · exact absurd (by rw [ea, eb]) hne
      · rw [ea]; exact h1.1 b hb2
    · rcases List.mem_cons.1 hb with eb | hb2
      · rw [eb]; exact hsym _ _ (h1.1 a ha2)
      · exact pair_of hsym h1.2 a ha2 b hb2 hne

theorem getP_name {k : L8} {fs : List FP} {p : FP} (h : getP k fs = some p) : p.1.name = k ∧ p ∈ fs := by
  have h1 := List.find?_some h
  exact ⟨by simpa using h1, List.mem_of_find?_eq_some h⟩

/-- a file's row is no other file's -/
theorem DiskAt.other {w : World} {B d mb n : Nat} {S : DS} {fs : List FP} (h : DiskAt w B d mb n S fs) {k : L8} {p : FP} (hg : getP k fs = some p) : ∀ q ∈ delP k fs, p.2.ownBlock = none ∨ p.2.ownBlock ≠ q.2.ownBlock := fun q hq => by
  obtain ⟨hn, hm⟩ := getP_name hg
  have hq2 := List.mem_filter.1 hq
  refine pair_of (R := fun a b => a.2.ownBlock = none ∨ a.2.ownBlock ≠ b.2.ownBlock) (fun a b hr => ?_) h.2.2.2.2.2.2.2 p hm q hq2.1 (fun e => by have h3 := hq2.2; rw [← e, hn] at h3; simp at h3)
  rcases hr with hr | hr
  · by_cases h10 : b.2.ownBlock = none
    · exact .inl h10
    · exact .inr fun e => h10 (e.trans hr)
  · exact .inr fun e => hr e.symm

/-- Read's answer -/
def rdR (S : DS) (fs : List FP) (k : L8) : ByteArray × Int := if S.down then (⟨#[]⟩, 8) else match getP k fs with
  | none => (⟨#[]⟩, 5)
  | some p => (⟨p.1.data.toArray⟩, 0)

set_option maxHeartbeats 2000000 in
theorem read_any {B d mb n : Nat} {S : DS} {fs : List FP} (w : World) (h : DiskAt w B d mb n S fs) (s : ByteArray) (hs : s.size ≤ maxLen) :
    Calls Try.prog 16 #[.pointer (some ⟨d, 0, none⟩), .string s] w fun e w' => e = .returned (.tuple #[.string (rdR S fs s.data.toList).1, .int .i64 (rdR S fs s.data.toList).2]) ∧ Below w.heap.size w w' := by
  have HD := Lib.hid (down_any w h)
  have HH := Lib.hid h
  obtain ⟨⟨b0, b1, b2, b3, b4, b5⟩, _⟩ := Box.six h.1
  cases hd : S.down
  · rw [hd] at HD
    cases hg : getP s.data.toList fs with
    | none =>
      have HR : Hid (rdR S fs s.data.toList = (⟨#[]⟩, 5)) := Lib.hid (by unfold rdR; rw [hd, hg]; rfl)
      have hlk := look_none h s hs hg
      clear hd hg h
      go_enter Try.func16, Try.ntmps16
      go_wp2_with fail
      refine HD.out.mono ?_
      rintro e w1 ⟨rfl, rfl⟩
      go_wp2
      exact bodyPost_ret (v := .tuple #[.string ⟨#[]⟩, .int .i64 5]) (by simp [results, Try.results16, go_sem]) rfl ⟨by rw [HR.out], (Below.refl _ _).alloc (Nat.le_refl _) _⟩
    | some p =>
      have HR : Hid (rdR S fs s.data.toList = (⟨p.1.data.toArray⟩, 0)) := Lib.hid (by unfold rdR; rw [hd, hg]; rfl)
      obtain ⟨a1, c1, e1, hlk⟩ := look_some h s hs p hg
      have hcv := conv_bs (P := Try.prog) 5 B (w.alloc (.cells #[.slice a1 p.1.data.length c1, .int .i64 p.1.safe] 69)) 55 9 Try.underlying55 Try.underlying5 Try.underlying9 p.2 p.1.data ((h.alloc _).2.2.1 p (getP_name hg).2)
      rw [e1] at hcv
      clear hd hg h e1
      go_enter Try.func16, Try.ntmps16
      go_wp2_with fail
      refine HD.out.mono ?_
      rintro e w1 ⟨rfl, rfl⟩
      go_wp2
      exact bodyPost_ret (v := .tuple #[.string ⟨p.1.data.toArray⟩, .int .i64 0]) (by simp [results, Try.results16, go_sem]) rfl ⟨by rw [HR.out], (Below.refl _ _).alloc (Nat.le_refl _) _⟩
  · rw [hd] at HD
    have HR : Hid (rdR S fs s.data.toList = (⟨#[]⟩, 8)) := Lib.hid (by unfold rdR; rw [hd]; rfl)
    clear hd h
    go_enter Try.func16, Try.ntmps16
    go_wp2_with fail
    refine HD.out.mono ?_
    rintro e w1 ⟨rfl, rfl⟩
    go_wp2
    exact bodyPost_ret (v := .tuple #[.string ⟨#[]⟩, .int .i64 8]) (by simp [results, Try.results16, go_sem]) rfl ⟨by rw [HR.out], Below.refl _ _⟩

/-- Sync: the answer, and the disk behind it -/
def syR (S : DS) (fs : List FP) (k : L8) : Int × DS × List FP :=
  if S.turn.1 = false then (8, S.turn.2, fs) else match getP k fs with
    | none => (5, S.turn.2, fs)
    | some p => (0, { S.turn.2 with used := S.turn.2.used + ((p.1.data.length : Int) - lenOf k fs) }, putP (⟨k, p.1.data, p.1.data.length⟩, p.2) fs)

set_option maxHeartbeats 2000000 in
theorem sync_any {B d mb n : Nat} {S : DS} {fs : List FP} (w : World) (h : DiskAt w B d mb n S fs) (s : ByteArray) (hs : s.size ≤ maxLen) (hl0 : 0 ≤ S.left) (hl1 : S.left ≤ 9223372036854775807) (hn : n < 1000000)
    (hu2 : S.used ≤ 1000000000) (hl : (lenOf s.data.toList fs : Int) ≤ S.used) :
    Calls Try.prog 25 #[.pointer (some ⟨d, 0, none⟩), .string s] w fun e w' => e = .returned (.int .i64 (syR S fs s.data.toList).1) ∧
      (∃ m, m ≤ n + 1 ∧ DiskAt w' B d mb m (syR S fs s.data.toList).2.1 (syR S fs s.data.toList).2.2) ∧ DKept w w' (Foot d mb fs) := by
  have HT := Lib.hid (turn_any w h hl0 hl1)
  have hU := (turn_files (S := S)).1
  obtain ⟨T, hT⟩ : ∃ T, T = S.turn := ⟨_, rfl⟩
  have HR : Hid (syR S fs s.data.toList = if T.1 = false then ((8 : Int), T.2, fs) else match getP s.data.toList fs with
    | none => (5, T.2, fs)
    | some p => (0, { T.2 with used := T.2.used + ((p.1.data.length : Int) - lenOf s.data.toList fs) }, putP (⟨s.data.toList, p.1.data, p.1.data.length⟩, p.2) fs)) := Lib.hid (by rw [hT]; rfl)
  rw [← hT] at HT hU
  have HTT := Lib.hid hT
  clear hT h
  obtain ⟨tb, T2⟩ := T
  simp only at HT HR hU
  cases tb
  · go_enter Try.func25, Try.ntmps25
    go_wp2_with fail
    refine HT.out.mono ?_
    rintro e w1 ⟨rfl, hD1, hK1⟩
    have HD1 := Lib.hid (And.intro hD1 hK1)
    clear hD1 hK1
    go_wp2
    go_ret
    rw [HR.out]
    exact ⟨rfl, ⟨n, by omega, HD1.out.1⟩, HD1.out.2⟩
  · cases hg : getP s.data.toList fs with
    | none =>
      rw [hg] at HR
      have HG := Lib.hid hg
      clear hg
      go_enter Try.func25, Try.ntmps25
      go_wp2_with fail
      refine HT.out.mono ?_
      rintro e w1 ⟨rfl, hD1, hK1⟩
      have HD1 := Lib.hid (And.intro hD1 hK1)
      obtain ⟨⟨b0, b1, b2, b3, b4, b5⟩, _⟩ := Box.six hD1.1
      have hlk := look_none hD1 s hs HG.out
      clear hD1 hK1
      go_wp2
      go_ret
      rw [HR.out]
      exact ⟨rfl, ⟨n, by omega, HD1.out.1.alloc _⟩, HD1.out.2.alloc _⟩
    | some p =>
      rw [hg] at HR
      have HG := Lib.hid hg
      clear hg
      go_enter Try.func25, Try.ntmps25
      go_wp2_with fail
      refine HT.out.mono ?_
      rintro e w1 ⟨rfl, hD1, hK1⟩
      have HD1 := Lib.hid (And.intro hD1 hK1)
      obtain ⟨⟨b0, b1, b2, b3, b4, b5⟩, _⟩ := Box.six hD1.1
      obtain ⟨a1, c1, e1, hlk⟩ := look_some hD1 s hs p HG.out
      have hA := hD1.alloc (.cells #[.slice a1 p.1.data.length c1, .int .i64 p.1.data.length] 69)
      have hmem := (getP_name HG.out).2
      have hrow := hA.2.2.1 p hmem
      have hown := hA.2.2.2.2.2.2.1 p hmem
      have hoth := hA.other HG.out
      have hlL : (p.1.data.length : Int) ≤ S.used := by
        have : lenOf s.data.toList fs = p.1.data.length := by unfold lenOf; rw [HG.out]
        rw [this] at hl; exact hl
      have e2 : (s.data.toList, p.2) = (s.data.toList, Value.slice a1 p.1.data.length c1) := by rw [e1]
      rw [e1] at hrow hown hoth
      have hput := put_any _ hA s hs ⟨s.data.toList, p.1.data, p.1.data.length⟩ rfl a1 c1 hn hrow hown.1 hown.2 hoth (by rw [hU]; exact hu2) (by show p.1.data.length ≤ 1000000000; omega) (by rw [hU]; exact hl)
      rw [← e1] at hput
      have e3 := e1
      have HPUT := Lib.hid hput
      have HE := Lib.hid e1
      clear hD1 hK1 e1 hA hrow hown hoth hput e2 e3 hlL
      go_wp2_with fail
      have hput := HPUT.out
      rw [HE.out] at hput
      refine hput.mono ?_
      rintro e w2 ⟨rfl, hD2, hK2⟩
      have HD2 := Lib.hid (And.intro hD2 ((HD1.out.2.alloc _).trans hK2))
      clear hD2 hK2 hput
      go_wp2
      go_ret
      rw [HR.out]
      refine ⟨rfl, ⟨n + 1, Nat.le_refl _, ?_⟩, HD2.out.2⟩
      have h9 := HD2.out.1
      rw [← HE.out] at h9
      exact h9

end Go.Proofs.Ytkeopkhbcmeplaa
