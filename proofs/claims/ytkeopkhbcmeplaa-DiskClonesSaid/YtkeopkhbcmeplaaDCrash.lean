/-
  disk's file.crash; bytes.Clone.
-/
import Derived.Test.YtkeopkhbcmeplaaDTr
import Derived.Test.YtkeopkhbcmeplaaShelf
namespace Go.Proofs.Ytkeopkhbcmeplaa
open Go.RowKit

set_option maxHeartbeats 1000000 in
/-- bytes.Clone of what is owned -/
theorem bclone_any {B : Nat} (w : World) (a : Option Addr) (k c : Nat) (l : L8) (hk : l.length = k) (h : Bs 5 B w (.slice a k c) l) (hbig : k ≤ 140737488355328) :
    Calls Try.prog 35 #[.slice a k c] w fun e w' => ∃ v, e = .returned v ∧ Bs 5 w.heap.size w' v l ∧ Below w.heap.size w w' := by
  subst hk
  cases a with
  | none =>
    have hl : l = [] := by
      rcases h.2 with ⟨e, h0⟩ | ⟨g, cap, cur, e, _⟩
      · exact List.eq_nil_of_length_eq_zero h0
      · injection e with e1; cases e1
    subst hl
    refine (Try.bytes_Clone_nil _ c w).mono ?_
    rintro e w' ⟨rfl, rfl⟩
    exact ⟨_, rfl, Bs.nil _ _ _, Below.refl _ _⟩
  | some g0 =>
    rcases h.2 with ⟨e, h0⟩ | ⟨g, cap, cur, e, _⟩
    · cases e
    · injection e with e1 e2 e3
      injection e1 with e1
      subst e1
      refine (Try.bytes_Clone_at ⟨g, 0, none⟩ l.length c (l.map fun b => (b.toNat : Int)) w (by simp) hbig fun i hi => ?_).mono ?_
      · have h9 := World.ownsRow.cells h (g := g) rfl i (.int .u8 (l[i].toNat : Int)) (by simp [Lib.byteCells, hi])
        rw [show (l.map fun b => (b.toNat : Int)).getD i 0 = (l[i].toNat : Int) by simp [List.getD, hi]]
        simpa [Addr.add] using h9
      · rintro e w' ⟨v', rfl, ho, _, hb⟩
        refine ⟨v', rfl, ?_, hb⟩
        have e4 : (l.map fun b => (b.toNat : Int)).map (Value.int .u8) = Lib.byteCells l := by simp [Lib.byteCells]
        rw [e4] at ho
        exact ho

/-- how many bytes a crash leaves -/
def crZ (L sf : Nat) (more : Int) : Nat := sf + (min (max more 0) ((L : Int) - (sf : Int))).toNat

theorem crZ_le {L sf : Nat} {more : Int} (h : sf ≤ L) : crZ L sf more ≤ L := by unfold crZ; omega

set_option maxHeartbeats 2000000 in
set_option maxRecDepth 100000 in
theorem crash_any {B : Nat} (w : World) (a : Option Addr) (c : Nat) (l : L8) (sf : Nat) (more : Int) (h : Bs 5 B w (.slice a l.length c) l) (hsf : sf ≤ l.length) (hbig : l.length ≤ 1000000000) :
    Calls Try.prog 34 #[.agg #[.slice a l.length c, .int .i64 sf], .int .i64 more] w fun e w' => ∃ v, e = .returned (.agg #[v, .int .i64 (crZ l.length sf more)]) ∧ Bs 5 w.heap.size w' v (l.take (crZ l.length sf more)) ∧ Below w.heap.size w w' := by
  have hz := crZ_le (more := more) hsf
  obtain ⟨Z, hZ⟩ : ∃ Z, Z = crZ l.length sf more := ⟨_, rfl⟩
  rw [← hZ] at hz ⊢
  have HT := Lib.hid (Bs.take h Z hz)
  have HL : Hid ((l.take Z).length = Z) := Lib.hid (by rw [List.length_take]; omega)
  have hZ9 : (sf : Int) + min (max more 0) ((l.length : Int) - (sf : Int)) = (Z : Int) := by rw [hZ]; unfold crZ; omega
  have hzc : Z ≤ c := by
    rcases h.2 with ⟨e, h0⟩ | ⟨g, cap, cur, e, h2, h3, h4, h5, h6, h7⟩
    · injection e with e1 e2 e3
      omega
    · injection e with e1 e2 e3
      omega
  have hzb : Z ≤ 140737488355328 := by omega
  obtain ⟨L, hL⟩ : ∃ L, L = l.length := ⟨_, rfl⟩
  rw [← hL] at hZ9 hsf hbig ⊢
  have HB := Lib.hid hzb
  clear hZ hL h hz hzb
  go_enter Try.func34, Try.ntmps34
  go_wp2_with fail
  refine (bclone_any _ a Z c (l.take Z) HL.out (World.ownsRow.alloc (by have := HT.out; unfold Bs at this; exact World.ownsRow.alloc this _) _) HB.out).mono ?_
  rintro e w2 ⟨v, rfl, hv, hb⟩
  have hs0 : ((w.alloc (Obj.cells #[Value.slice a L c, Value.int IntKind.i64 sf] 69)).alloc (Obj.cells #[Value.slice none 0 0, Value.int IntKind.i64 0] 69)).heap.size = w.heap.size + 2 := by simp
  have hsA : (w.alloc (Obj.cells #[Value.slice a L c, Value.int IntKind.i64 sf] 69)).heap.size = w.heap.size + 1 := by simp
  have hbox : w2.heap[w.heap.size + 1]? = some (.cells #[Value.slice none 0 0, Value.int IntKind.i64 0] 69 (0, 0)) := by
    refine (hb.block (w.heap.size + 1) (by omega)).trans ?_
    have := heap_alloc_new (w.alloc (Obj.cells #[Value.slice a L c, Value.int IntKind.i64 sf] 69)) (Obj.cells #[Value.slice none 0 0, Value.int IntKind.i64 0] 69)
    rw [hsA] at this
    exact this
  have t0 : w2.cell? ⟨w.heap.size + 1, 0, none⟩ = some (.slice none 0 0) := cell_of_row w2 _ 0 _ _ (0, 0) hbox
  have t1 : w2.cell? ⟨w.heap.size + 1, 1, none⟩ = some (.int .i64 0) := cell_of_row w2 _ 1 _ _ (0, 0) hbox
  have u0 : w2.frozen? ⟨w.heap.size + 1, 0, none⟩ = false := by simp [World.frozen?, hbox]
  have u1 : w2.frozen? ⟨w.heap.size + 1, 1, none⟩ = false := by simp [World.frozen?, hbox]
  obtain ⟨a', c', rfl⟩ := Bs.lenEq hv
  have hB2 : Below w.heap.size w w2 := (((Below.refl _ w).alloc (Nat.le_refl _) _).alloc (by omega) _).trans (hb.mono (by omega))
  have hfin : Bs 5 w.heap.size ((w2.setCell ⟨w.heap.size + 1, 0, none⟩ (.slice a' (l.take Z).length c')).setCell ⟨w.heap.size + 1, 1, none⟩ (.int .i64 (Z : Int))) (.slice a' (l.take Z).length c') (l.take Z) ∧
      Below w.heap.size w ((w2.setCell ⟨w.heap.size + 1, 0, none⟩ (.slice a' (l.take Z).length c')).setCell ⟨w.heap.size + 1, 1, none⟩ (.int .i64 (Z : Int))) := by
    refine ⟨bs_keep (show Bs 5 w.heap.size w2 _ _ from ⟨hv.1, hv.2.imp id fun ⟨g, cap, cur, e1, e2, e3⟩ => ⟨g, cap, cur, e1, by omega, e3⟩⟩) fun q hq => (Below.heap_setCell _ ⟨w.heap.size + 1, 1, none⟩ _ q ?_).trans (Below.heap_setCell _ ⟨w.heap.size + 1, 0, none⟩ _ q ?_), (hB2.setCell (p := ⟨w.heap.size + 1, 0, none⟩) (by show w.heap.size ≤ w.heap.size + 1; omega) _).setCell (p := ⟨w.heap.size + 1, 1, none⟩) (by show w.heap.size ≤ w.heap.size + 1; omega) _⟩
    all_goals (show q ≠ w.heap.size + 1; have := (World.ownsRow.lt hv q hq).1; omega)
  rw [HL.out] at hfin
  have HF := Lib.hid hfin
  clear hfin hB2 hbox hb hv hs0 hsA
  rw [HL.out]
  go_wp2
  refine bodyPost_ret (v := .agg #[.slice a' Z c', .int .i64 Z]) (by simp [results, Try.results34, t0, t1, go_sem]) rfl ⟨_, rfl, HF.out⟩

end Go.Proofs.Ytkeopkhbcmeplaa
