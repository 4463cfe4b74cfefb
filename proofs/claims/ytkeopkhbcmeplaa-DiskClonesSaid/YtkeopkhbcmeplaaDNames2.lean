/-
  disk.Names.
-/
import Derived.Test.YtkeopkhbcmeplaaDNames
import Derived.Test.YtkeopkhbcmeplaaDPlain
namespace Go.Proofs.Ytkeopkhbcmeplaa
open Go.RowKit Go.ChangeMaps Go.MapKept Go.WideMaps

theorem size_fs (fs : List FP) : Maps.size (dm (fvals fs)) = fs.length := by
  unfold dm fvals Maps.size
  simp

/-- a row of the files' names, new -/
def NamesAre (w : World) (fs : List FP) (e : Ending) (w' : World) : Prop :=
  ∃ v, e = .returned v ∧ w'.ownsRow w.heap.size 9 1 v fs.length (fs.map fun p => encStr p.1.name) ∧ Below w.heap.size w w'

theorem names_at {B d mb n : Nat} {S : DS} {fs : List FP} (w : World) (h : DiskAt w B d mb n S fs) (hr : RiseN fs) (hm : fs.length ≤ 1000000) :
    Calls Try.prog 32 #[.pointer (some ⟨d, 0, none⟩)] w (NamesAre w fs) := by
  refine (names_any d mb n (dm (fvals fs)) RV w (Box.six h.1).1.1 h.2.1 (by rw [size_fs]; exact hm)).mono ?_
  rintro e w' ⟨v, ss, rfl, hp, hrow, hb⟩
  rw [strKeys_fs] at hp
  rw [names_sorted hr hp] at hrow
  have hl : ss.length = fs.length := by rw [hp.length_eq, List.length_map]
  rw [hl, List.map_map] at hrow
  exact ⟨v, rfl, hrow, hb⟩

theorem Names_any {B d mb n : Nat} {S : DS} {fs : List FP} (w : World) (h : DiskAt w B d mb n S fs) (hr : RiseN fs) (hm : fs.length ≤ 1000000) :
    Calls Try.prog 23 #[.pointer (some ⟨d, 0, none⟩)] w (NamesAre w (if S.down then [] else fs)) := by
  have HD := Lib.hid (down_any w h)
  have HN := Lib.hid (names_at w h hr hm)
  cases hd : S.down
  · rw [hd] at HD
    clear h hr hm hd
    rw [if_neg (by simp)]
    go_enter Try.func23, Try.ntmps23
    go_wp2_with fail
    refine HD.out.mono ?_
    rintro e w1 ⟨rfl, rfl⟩
    go_wp2_with fail
    refine HN.out.mono ?_
    rintro e w1 ⟨v, rfl, hrow, hb⟩
    have HH := Lib.hid (And.intro hrow hb)
    clear hrow hb
    go_wp2
    go_ret
    exact ⟨_, rfl, HH.out⟩
  · rw [hd] at HD
    clear h hr hm hd HN
    rw [if_pos rfl]
    go_enter Try.func23, Try.ntmps23
    go_wp2_with fail
    refine HD.out.mono ?_
    rintro e w1 ⟨rfl, rfl⟩
    go_wp2
    go_ret
    exact ⟨_, rfl, World.ownsRow_nil _ _ _ 1, Below.refl _ _⟩

end Go.Proofs.Ytkeopkhbcmeplaa
