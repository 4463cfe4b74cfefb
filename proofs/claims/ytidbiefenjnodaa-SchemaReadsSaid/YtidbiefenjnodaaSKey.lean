/-
  schema: the keys under which all is kept: contracts of Key, Docs, Doc, Entries.
-/
import Derived.Test.YtidbiefenjnodaaOKeyA
import Derived.Test.YtidbiefenjnodaaSIx
namespace Go.Proofs.Ytidbiefenjnodaa
open Go.RowKit

theorem oK_le : ∀ (ps : List ByteArray), (∀ p ∈ ps, p.size ≤ 1000) → (oK (txts ps)).length ≤ ps.length * 2002
  | [], _ => by simp [txts, oK]
  | p :: ps, h => by
    have h1 := oT_length (txt p)
    have h2 := txt_length p
    have h3 := h p (List.mem_cons_self ..)
    have h4 := oK_le ps fun q hq => h q (List.mem_cons_of_mem _ hq)
    show (oT (txt p) ++ oK (txts ps)).length ≤ _
    rw [List.length_append, List.length_cons]
    omega

theorem key_new (cs : Array Value) (ps : List ByteArray) (hcs : cs = (ps.map Value.string).toArray) (h : ∀ p ∈ ps, p.size ≤ 1000) (hn : ps.length ≤ 100) (n : Nat) (hl : n = ps.length) (W : World) :
    Calls Try.prog 19 #[.slice (some ⟨W.heap.size, 0, none⟩) n n] (W.alloc (.cells cs 9)) fun e w' => e = .returned (.string ⟨(oK (txts ps)).toArray⟩) ∧ Below W.heap.size W w' := by
  subst hl
  have hb0 := (Below.refl _ W).alloc (Nat.le_refl _) (.cells cs 9)
  refine (key_any _ ps.length ps (W.alloc (.cells cs 9)) (.inr ⟨W.heap.size, 0, rfl, by simp, fun i hi => ?_⟩) (by have := oK_le ps h; omega) (by omega)).mono ?_
  · rw [cell_of_row _ _ (0 + i) cs 9 (0, 0) (heap_alloc_new W _), hcs]
    simp [hi]
  · rintro e w' ⟨rfl, hb⟩
    exact ⟨rfl, hb0.trans (hb.mono (by simp))⟩

/-- the tags -/
def tC : ByteArray := ⟨#[99]⟩
def tD : ByteArray := ⟨#[100]⟩
def tI : ByteArray := ⟨#[105]⟩
def kS (ps : List ByteArray) : ByteArray := ⟨(oK (txts ps)).toArray⟩

theorem coll_box (w : World) (nm : ByteArray) (v : Value) : (w.alloc (.cells #[.string nm, v] 25)).cell? ⟨w.heap.size, 0, none⟩ = some (.string nm) := by simp

theorem ckey_any (nm : ByteArray) (v : Value) (hn : nm.size ≤ 1000) (hv : ∃ a l c, v = .slice a l c) (w : World) :
    Calls Try.prog 21 #[.agg #[.string nm, v]] w fun e w' => e = .returned (.string (kS [tC, nm])) ∧ Below w.heap.size w w' := by
  obtain ⟨a, l, c, rfl⟩ := hv
  have hb0 := (Below.refl _ w).alloc (Nat.le_refl _) (.cells #[.string nm, .slice a l c] 25)
  have hk := key_new #[.string ⟨#[99]⟩, .string nm] [tC, nm] rfl (by simp; exact ⟨by decide, hn⟩) (by simp) 2 rfl (w.alloc (.cells #[.string nm, .slice a l c] 25))
  simp only [World.size_alloc] at hk
  have HK := Lib.hid hk
  clear hk
  have HB := Lib.hid hb0
  clear hb0
  go_enter Try.func21, Try.ntmps21
  go_wp2_with fail
  refine HK.out.mono ?_
  rintro e w1 ⟨rfl, hb⟩
  have HB1 := Lib.hid (HB.out.trans (hb.mono (by omega)))
  clear hb
  go_wp2
  go_ret
  exact ⟨rfl, HB1.out⟩

theorem cdocs_any (nm : ByteArray) (v : Value) (hn : nm.size ≤ 1000) (hv : ∃ a l c, v = .slice a l c) (w : World) :
    Calls Try.prog 20 #[.agg #[.string nm, v]] w fun e w' => e = .returned (.string (kS [tD, nm])) ∧ Below w.heap.size w w' := by
  obtain ⟨a, l, c, rfl⟩ := hv
  have hb0 := (Below.refl _ w).alloc (Nat.le_refl _) (.cells #[.string nm, .slice a l c] 25)
  have hk := key_new #[.string ⟨#[100]⟩, .string nm] [tD, nm] rfl (by simp; exact ⟨by decide, hn⟩) (by simp) 2 rfl (w.alloc (.cells #[.string nm, .slice a l c] 25))
  simp only [World.size_alloc] at hk
  have HK := Lib.hid hk
  clear hk
  have HB := Lib.hid hb0
  clear hb0
  go_enter Try.func20, Try.ntmps20
  go_wp2_with fail
  refine HK.out.mono ?_
  rintro e w1 ⟨rfl, hb⟩
  have HB1 := Lib.hid (HB.out.trans (hb.mono (by omega)))
  clear hb
  go_wp2
  go_ret
  exact ⟨rfl, HB1.out⟩

theorem cdoc_any (nm id : ByteArray) (v : Value) (hn : nm.size ≤ 1000) (hi : id.size ≤ 1000) (hv : ∃ a l c, v = .slice a l c) (w : World) :
    Calls Try.prog 17 #[.agg #[.string nm, v], .string id] w fun e w' => e = .returned (.string (kS [tD, nm, id])) ∧ Below w.heap.size w w' := by
  obtain ⟨a, l, c, rfl⟩ := hv
  have hb0 := (Below.refl _ w).alloc (Nat.le_refl _) (.cells #[.string nm, .slice a l c] 25)
  have hk := key_new #[.string ⟨#[100]⟩, .string nm, .string id] [tD, nm, id] rfl (by simp; exact ⟨by decide, hn, hi⟩) (by simp) 3 rfl (w.alloc (.cells #[.string nm, .slice a l c] 25))
  simp only [World.size_alloc] at hk
  have HK := Lib.hid hk
  clear hk
  have HB := Lib.hid hb0
  clear hb0
  go_enter Try.func17, Try.ntmps17
  go_wp2_with fail
  refine HK.out.mono ?_
  rintro e w1 ⟨rfl, hb⟩
  have HB1 := Lib.hid (HB.out.trans (hb.mono (by omega)))
  clear hb
  go_wp2
  go_ret
  exact ⟨rfl, HB1.out⟩

theorem centries_any (nm : ByteArray) (v : Value) (x : Ix) (hn : nm.size ≤ 1000) (hi : x.name.size ≤ 1000) (hv : ∃ a l c, v = .slice a l c) (w : World) :
    Calls Try.prog 18 #[.agg #[.string nm, v], .agg #[.string x.name, .string x.field, .bool x.uniq]] w fun e w' => e = .returned (.string (kS [tI, nm, x.name])) ∧ Below w.heap.size w w' := by
  obtain ⟨a, l, c, rfl⟩ := hv
  obtain ⟨xn, xf, xu⟩ := x
  have hb0 := ((Below.refl _ w).alloc (Nat.le_refl _) (.cells #[.string nm, .slice a l c] 25)).alloc (by simp) (.cells #[.string xn, .string xf, .bool xu] 32)
  have hk := key_new #[.string ⟨#[105]⟩, .string nm, .string xn] [tI, nm, xn] rfl (by simp; exact ⟨by decide, hn, hi⟩) (by simp) 3 rfl ((w.alloc (.cells #[.string nm, .slice a l c] 25)).alloc (.cells #[.string xn, .string xf, .bool xu] 32))
  simp only [World.size_alloc] at hk
  have HK := Lib.hid hk
  clear hk
  have HB := Lib.hid hb0
  clear hb0
  go_enter Try.func18, Try.ntmps18
  go_wp2_with fail
  refine HK.out.mono ?_
  rintro e w1 ⟨rfl, hb⟩
  have HB1 := Lib.hid (HB.out.trans (hb.mono (by omega)))
  clear hb
  go_wp2
  go_ret
  exact ⟨rfl, HB1.out⟩

/-- the laws' head -/
theorem head13_any (w : World) : Calls Try.prog 6 #[] w fun e w' => e = .returned (.bool true) ∧ Below w.heap.size w w' := by
  have HK := Lib.hid (ckey_any ⟨#[97]⟩ (.slice none 0 0) (by decide) ⟨_, _, _, rfl⟩ w)
  have HE : Hid (kS [tC, ⟨#[97]⟩] = ⟨#[99, 0, 1, 97, 0, 1]⟩) := Lib.hid (by decide +kernel)
  go_enter Try.func6, Try.ntmps6
  go_wp2_with fail
  refine HK.out.mono ?_
  rintro e w1 ⟨rfl, hb⟩
  rw [HE.out]
  have HB1 := Lib.hid hb
  clear hb
  go_wp2
  go_ret
  exact ⟨rfl, HB1.out⟩

end Go.Proofs.Ytidbiefenjnodaa
