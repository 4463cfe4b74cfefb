/-
  The library's insertion sort, at the fields of a map.
-/
import Derived.Shelf.SlSortCmp.InsertionK
import Derived.Test.YtcocljgafhpdaaaVClone2
namespace Go.Proofs.Ytcocljgafhpdaaa
open Go.RowKit Go.Sort

def layIns_ren : Go.Shelf.Ren := ⟨fun | 20 => 83 | n => n, fun | 22 => 22 | 24 => 30 | 25 => 70 | 0 => 0 | 3 => 3 | 4 => 4 | n => n, fun | n => n⟩
theorem layIns : Go.Proofs.SlLaysF0.n20 Try.prog layIns_ren := {
  mixed := by kernel_rfl
  f20 := ⟨Try.f83.name, by kernel_rfl, Try.func83.trans (congrArg some (by kernel_rfl))⟩
  t0 := Try.underlying0
  a0 := Try.isAgg0
  z0 := Try.sizeOf0
  v0 := Try.zeroValue0
  t3 := Try.underlying3
  a3 := Try.isAgg3
  z3 := Try.sizeOf3
  v3 := Try.zeroValue3
  t4 := Try.underlying4
  a4 := Try.isAgg4
  z4 := Try.sizeOf4
  v4 := Try.zeroValue4
  t22 := Try.underlying22
  a22 := Try.isAgg22
  z22 := Try.sizeOf22
  v22 := Try.zeroValue22
  t25 := Try.underlying70
  a25 := Try.isAgg70
  z25 := Try.sizeOf70
  v25 := Try.zeroValue70
}

/-- a field as it lies in memory -/
structure FC where
  nm : ByteArray
  v : V
  a : Option Addr
  c : Nat
  b : Option Addr
  d : Nat
instance : Inhabited FC := ⟨⟨ByteArray.empty, V.null, none, 0, none, 0⟩⟩

def FC.enc (x : FC) : List Value := [.string x.nm, .int .i64 x.v.kind, .bool x.v.yes, .int .i64 x.v.num, .string x.v.text, .slice x.a x.v.list.length x.c, .slice x.b x.v.fields.length x.d]
def FC.cf (x y : FC) : Int := cmpL x.nm.data.toList y.nm.data.toList

theorem FC.enc7 (x : FC) : x.enc.length = 7 := rfl
theorem FC.one (x : FC) : ∀ v ∈ x.enc, v.oneCell' = true := by
  intro v hv
  simp only [FC.enc, List.mem_cons, List.not_mem_nil, or_false] at hv
  rcases hv with rfl | rfl | rfl | rfl | rfl | rfl | rfl <;> rfl

theorem names_same (x y : FC) (w : World) :
    Calls Try.prog 35 #[.agg x.enc.toArray, .agg y.enc.toArray] w fun e w' => e = .returned (.int .i64 (FC.cf x y)) ∧ w' = Sort.grow w #[.cells x.enc.toArray 30, .cells y.enc.toArray 30] := by
  obtain ⟨nm, v, a, c, b, d⟩ := x
  obtain ⟨nm', v', a', c', b', d'⟩ := y
  simp only [FC.enc, FC.cf]
  go_enter Try.func35, Try.ntmps35
  go_wp2_with fail
  refine (cmpText_any nm nm' _).mono ?_
  rintro e w1 ⟨rfl, rfl⟩
  go_wp2
  go_ret
  exact ⟨rfl, by unfold Sort.grow World.alloc; simp only [World.mk.injEq, and_true]; apply Array.ext'; simp⟩

theorem cmp_lays (blk off size : Nat) (w : World) : CmpLays Try.prog 35 #[] FC.enc 7 FC.cf blk off size w := by
  intro m os dk _ x y
  exact (names_same x y _).mono fun e w' h => ⟨h.1, 0, #[.cells x.enc.toArray 30, .cells y.enc.toArray 30], h.2⟩

theorem insert_any (d : Array FC) (a b cap g : Nat) (w : World) (hH : HoldsK FC.enc 7 w g 0 d) (hg : g < w.heap.size) (hab : a ≤ b) (hb : b ≤ d.size) (hsz : d.size ≤ 1000) :
    Calls Try.prog 83 #[.slice (some ⟨g, 0, none⟩) d.size cap, .int .i64 a, .int .i64 b, .func (.func 35) #[] #[]] w fun e w' =>
      e = .returned (.tuple #[]) ∧ ∃ n os, w' = sortWorldK FC.enc 7 w g 0 n (Sort.insertionSort (ltOf FC.cf) d a b) os :=
  AnyQ.insertionSortCmpFunc (P := Try.prog) (ρ := layIns_ren) layIns 7 Try.isAgg30 Try.sizeOf30 FC.enc FC.enc7 FC.one FC.cf 35 #[] g 0 cap a b d w (fun args w => by kernel_rfl) (cmp_lays _ _ _ _) hH hg hab hb (by omega)

end Go.Proofs.Ytcocljgafhpdaaa
