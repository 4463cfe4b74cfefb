/-
  val's Get.
-/
import Derived.Test.YtljhcnlifdmacaaVGet
namespace Go.Proofs.Ytljhcnlifdmacaa
open Go.RowKit

/-- the value of the first field of a name -/
def getF : List Fd → ByteArray → Option V
  | [], _ => none
  | p :: l, n => if p.1 = n then some p.2 else getF l n

def GetP (l : List Fd) (n : ByteArray) (w : World) (e : Ending) (w' : World) : Prop :=
  Below w.heap.size w w' ∧ ((∃ x lv fv, getF l n = some x ∧ e = .returned (.tuple #[.agg (x.cells lv fv).toArray, .bool true]) ∧ x.At w' (fun q => w.heap.size ≤ q) lv fv) ∨
    (getF l n = none ∧ e = .returned (.tuple #[.agg #[.int .i64 0, .bool false, .int .i64 0, .string ⟨#[]⟩, .slice none 0 0, .slice none 0 0], .bool false])))

theorem fieldsOf_map (y : Bool) (n : Int) (t : ByteArray) (ax : Option Addr) (lx cx : Nat) (ay : Option Addr) (ly cy : Nat) (w : World) :
    Calls Try.prog 38 #[.agg #[.int .i64 5, .bool y, .int .i64 n, .string t, .slice ax lx cx, .slice ay ly cy]] w fun e w' =>
      e = .returned (.slice ay ly cy) ∧ Below w.heap.size w w' := by
  refine (fieldsOf_any 5 y n t ax lx cx ay ly cy w).mono ?_
  rintro e w' ⟨h, hb⟩
  exact ⟨by rw [h, if_pos rfl], hb⟩

set_option maxHeartbeats 4000000 in
set_option maxRecDepth 100000 in
theorem get_map (y : Bool) (m : Int) (t : ByteArray) (ax : Option Addr) (lx cx : Nat) (l : List Fd) (nm : ByteArray) (lv : Value) (w : World) (hsm : ∀ x ∈ l, x.2.sm) (hlen : l.length ≤ 100000) (hl : FAt w All l lv) :
    Calls Try.prog 14 #[.agg #[.int .i64 5, .bool y, .int .i64 m, .string t, .slice ax lx cx, lv], .string nm] w (GetP l nm w) := by
  obtain ⟨a, c, rfl, hc1, hc2, hcl⟩ := hl
  have hof := fun W => fieldsOf_map y m t ax lx cx a l.length c W
  have HSM := Lib.hid hsm
  have hW : ∀ w1, Below ((w.alloc (.cells #[.int .i64 5, .bool y, .int .i64 m, .string t, .slice ax lx cx, .slice a l.length c] 26)).alloc (.cells #[.int .i64 0, .bool false, .int .i64 0, .string ⟨#[]⟩, .slice none 0 0, .slice none 0 0] 26)).heap.size ((w.alloc (.cells #[.int .i64 5, .bool y, .int .i64 m, .string t, .slice ax lx cx, .slice a l.length c] 26)).alloc (.cells #[.int .i64 0, .bool false, .int .i64 0, .string ⟨#[]⟩, .slice none 0 0, .slice none 0 0] 26)) w1 →
      Below w.heap.size w w1 ∧ Box w1 (w.heap.size + 1) 26 #[.int .i64 0, .bool false, .int .i64 0, .string ⟨#[]⟩, .slice none 0 0, .slice none 0 0] := fun w1 h => by
    have h0 : Below w.heap.size w (w.alloc (.cells #[.int .i64 5, .bool y, .int .i64 m, .string t, .slice ax lx cx, .slice a l.length c] 26)) := (Below.refl _ w).alloc (Nat.le_refl _) _
    have e1 : (w.alloc (.cells #[.int .i64 5, .bool y, .int .i64 m, .string t, .slice ax lx cx, .slice a l.length c] 26)).heap.size = w.heap.size + 1 := by simp
    have hN := Box.new (w.alloc (.cells #[.int .i64 5, .bool y, .int .i64 m, .string t, .slice ax lx cx, .slice a l.length c] 26)) 26 #[.int .i64 0, .bool false, .int .i64 0, .string ⟨#[]⟩, .slice none 0 0, .slice none 0 0]
    rw [e1] at hN
    refine ⟨(h0.alloc (by omega) _).trans (h.mono (by simp; omega)), (h.block _ (by simp)).trans hN⟩
  have HW := Lib.hid hW
  clear hsm hW
  go_enter Try.func14, Try.ntmps14
  go_wp2_with fail
  refine (hof _).mono ?_
  rintro e w1 ⟨rfl, hb1⟩
  obtain ⟨hb2, hZ2⟩ := HW.out w1 hb1
  clear hof HW hb1
  go_wp2_with fail
  go_loopw [11] (fun i wr => ∃ (j : Nat), j ≤ l.length ∧ i = .int .i64 j ∧ Below w.heap.size w wr ∧ Box wr (w.heap.size + 1) 26 #[.int .i64 0, .bool false, .int .i64 0, .string ⟨#[]⟩, .slice none 0 0, .slice none 0 0] ∧
      Hid (getF l nm = getF (l.drop j) nm)) (fun i _ => l.length - (intOf i).toNat)
  case atStart => exact ⟨0, Nat.zero_le _, rfl, hb2, hZ2, Lib.hid rfl⟩
  case round =>
    clear hb2 hZ2
    obtain ⟨j, hj, rfl, hbr, hZ, HG⟩ := hrel
    have hzr := hbr.size
    have hlt0 := hZ.lt
    by_cases hjl : j < l.length
    · have hjl' : (j : Int) < (l.length : Int) := by omega
      obtain ⟨b0, off, ea, hbl, hC⟩ : ∃ b0 off, a = some ⟨b0, off, none⟩ ∧ b0 < wr.heap.size ∧ FCells wr All b0 off l := by
        rcases hcl with h | ⟨b0, off, ea, _, hb, hC⟩
        · rw [h] at hjl; simp at hjl
        · exact ⟨b0, off, ea, Nat.lt_of_lt_of_le hb hbr.size, FCells.keepAll hC hbr hb⟩
      subst ea
      obtain ⟨lx', fx, hin, hel⟩ := hC.get hjl
      have hxs := HSM.out _ (List.getElem_mem hjl)
      have hdrop := List.drop_eq_getElem_cons hjl
      obtain ⟨xp, hxe⟩ : ∃ y, y = l[j] := ⟨_, rfl⟩
      rw [← hxe] at hin hel hxs hdrop
      have hg := HG.out
      rw [hdrop] at hg
      clear hxe hC HG hdrop
      obtain ⟨fn, x⟩ := xp
      simp only at hin hel hxs
      rw [getF] at hg
      simp only at hg
      replace hel : x.Is wr lx' fx := hel
      obtain ⟨⟨px, pc, rfl⟩, ⟨py, pd, rfl⟩, _, _⟩ := hel.len
      obtain ⟨p0, p1, p2, p3, p4, p5, p6⟩ := hin.seven
      have hb1 : Below wr.heap.size wr (wr.alloc (.cells #[.string fn, .int .i64 x.kind, .bool x.yes, .int .i64 x.num, .string x.text, .slice px x.list.length pc, .slice py x.fields.length pd] 30)) := (Below.refl _ wr).alloc (Nat.le_refl _) _
      have hcall := vclone_any x _ _ _ hxs (V.Is.below hel hb1)
      have hZ1 : Box (wr.alloc (.cells #[.string fn, .int .i64 x.kind, .bool x.yes, .int .i64 x.num, .string x.text, .slice px x.list.length pc, .slice py x.fields.length pd] 30)) (w.heap.size + 1) 26 #[.int .i64 0, .bool false, .int .i64 0, .string ⟨#[]⟩, .slice none 0 0, .slice none 0 0] := (hb1.block _ hlt0).trans hZ
      have hb2 := hbr.trans (hb1.mono hzr)
      have hz2 := hb2.size
      by_cases hn : fn = nm
      · subst hn
        rw [if_pos rfl] at hg
        have g1 : (fn.toList == fn.toList) = true := by rw [beq_iff_eq]
        have HGG := Lib.hid hg
        have HA := Lib.hid (And.intro hb2 (And.intro hZ1 hz2))
        clear hg hb2 hZ1 hz2 hb1 hin hel hZ hbr hcl
        go_wp2_with fail
        refine hcall.mono ?_
        rintro e w3 ⟨lv', fv', rfl, hat, hb3⟩
        obtain ⟨⟨qx, qc, rfl⟩, ⟨qy, qd, rfl⟩, _, _⟩ := hat.is.len
        obtain ⟨hb2, hZ1, hz2⟩ := HA.out
        have hZ3 : Box w3 (w.heap.size + 1) 26 #[.int .i64 0, .bool false, .int .i64 0, .string ⟨#[]⟩, .slice none 0 0, .slice none 0 0] := (hb3.block _ hZ1.lt).trans hZ1
        have hb4 := hb2.trans (hb3.mono hz2)
        have hF := Box.sets [.int .i64 x.kind, .bool x.yes, .int .i64 x.num, .string x.text, .slice qx x.list.length qc, .slice qy x.fields.length qd] 0 hZ3
        obtain ⟨⟨k0, k1, k2, k3, k4, k5⟩, _⟩ := Box.six (c0 := .int .i64 x.kind) (c1 := .bool x.yes) (c2 := .int .i64 x.num) (c3 := .string x.text) (c4 := .slice qx x.list.length qc) (c5 := .slice qy x.fields.length qd) hF
        simp only [sets, Nat.zero_add, Nat.reduceAdd] at k0 k1 k2 k3 k4 k5
        have hb5 := Below.sets [.int .i64 x.kind, .bool x.yes, .int .i64 x.num, .string x.text, .slice qx x.list.length qc, .slice qy x.fields.length qd] 0 hb4 (g := w.heap.size + 1) (Nat.le_succ _)
        have hlt1 := hZ1.lt
        have hat5 : x.At (sets w3 (w.heap.size + 1) 0 [.int .i64 x.kind, .bool x.yes, .int .i64 x.num, .string x.text, .slice qx x.list.length qc, .slice qy x.fields.length qd]) (fun q => w.heap.size ≤ q) (.slice qx x.list.length qc) (.slice qy x.fields.length qd) :=
          V.At.move (fun b hb _ => ⟨by omega, sets_far _ _ _ _ (by omega)⟩) (by rw [sets_size]; exact Nat.le_refl _) _ (Nat.le_refl _) hat
        obtain ⟨⟨z0, z1, z2, z3, z4, z5⟩, s0, s1, s2, s3, s4, s5⟩ := hZ3.six
        clear hF hZ1 hb2 hb3 hb4 hZ3 hat hcall hlt1 hz2 HA
        have HO : Hid (GetP l fn w (.returned (.tuple #[.agg #[.int .i64 x.kind, .bool x.yes, .int .i64 x.num, .string x.text, .slice qx x.list.length qc, .slice qy x.fields.length qd], .bool true])) (sets w3 (w.heap.size + 1) 0 [.int .i64 x.kind, .bool x.yes, .int .i64 x.num, .string x.text, .slice qx x.list.length qc, .slice qy x.fields.length qd])) :=
          Lib.hid ⟨hb5, .inl ⟨x, _, _, HGG.out, rfl, hat5⟩⟩
        clear hb5 hat5 HGG
        go_wp2
        refine bodyPost_ret (v := .tuple #[.agg #[.int .i64 x.kind, .bool x.yes, .int .i64 x.num, .string x.text, .slice qx x.list.length qc, .slice qy x.fields.length qd], .bool true]) (by simp [results, Try.results14, go_sem, k0, k1, k2, k3, k4, k5]) rfl HO.out
      · rw [if_neg hn] at hg
        have g1 : (fn.toList == nm.toList) = false := by
          rw [beq_eq_false_iff_ne, Lib.toList_data, Lib.toList_data]; intro e; exact hn (ByteArray.ext (Array.toList_inj.1 e))
        have HGG := Lib.hid hg
        have HJ := Lib.hid hjl
        clear hg hcall hin hel hZ hb1
        go_wp2
        go_roundw
        case rel => exact ⟨j + 1, HJ.out, by have hjl := HJ.out; go_num, hb2, hZ1, HGG⟩
        case measure =>
          have hjl := HJ.out
          simp [intOf]; omega
    · have hge : ¬ (j : Int) < (l.length : Int) := by omega
      obtain rfl : j = l.length := by omega
      obtain ⟨⟨k0, k1, k2, k3, k4, k5⟩, s0, s1, s2, s3, s4, s5⟩ := hZ.six
      have hF := Box.sets [.int .i64 0, .bool false, .int .i64 0, .string ⟨#[]⟩, .slice none 0 0, .slice none 0 0] 0 hZ
      obtain ⟨⟨m0, m1, m2, m3, m4, m5⟩, _⟩ := Box.six (c0 := .int .i64 0) (c1 := .bool false) (c2 := .int .i64 0) (c3 := .string ⟨#[]⟩) (c4 := .slice none 0 0) (c5 := .slice none 0 0) hF
      simp only [sets, Nat.zero_add, Nat.reduceAdd] at m0 m1 m2 m3 m4 m5
      have hb5 := Below.sets [.int .i64 0, .bool false, .int .i64 0, .string ⟨#[]⟩, .slice none 0 0, .slice none 0 0] 0 hbr (g := w.heap.size + 1) (Nat.le_succ _)
      have HO : Hid (GetP l nm w (.returned (.tuple #[.agg #[.int .i64 0, .bool false, .int .i64 0, .string ⟨#[]⟩, .slice none 0 0, .slice none 0 0], .bool false])) (sets wr (w.heap.size + 1) 0 [.int .i64 0, .bool false, .int .i64 0, .string ⟨#[]⟩, .slice none 0 0, .slice none 0 0])) :=
        Lib.hid ⟨hb5, .inr ⟨by rw [HG.out, List.drop_length]; rfl, rfl⟩⟩
      clear hjl hF hZ hbr hb5 HG
      go_wp2
      refine bodyPost_ret (v := .tuple #[.agg #[.int .i64 0, .bool false, .int .i64 0, .string ⟨#[]⟩, .slice none 0 0, .slice none 0 0], .bool false]) (by simp [results, Try.results14, go_sem, m0, m1, m2, m3, m4, m5]) rfl HO.out

end Go.Proofs.Ytljhcnlifdmacaa
