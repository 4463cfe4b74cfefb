/-
  val: Decode.
-/
import Derived.Test.YtacphlceggbfcaaValOK
namespace Go.Proofs.Ytacphlceggbfcaa
open Go.RowKit

/-- what bytes are, as a value; or the error's number -/
def decOf (l : L8) : Int ⊕ V := if 4096 < l.length then .inl 4 else match decV 32 l with | .inl e => .inl e | .inr (v, []) => .inr v | .inr (_, _ :: _) => .inl 2

def DecodeP (l : L8) (w : World) (e : Ending) (w' : World) : Prop :=
  Below w.heap.size w w' ∧ ((∃ er, decOf l = .inl er ∧ e = .returned (.tuple #[.agg #[.int .i64 0, .bool false, .int .i64 0, .string ⟨#[]⟩, .slice none 0 0, .slice none 0 0], .int .i64 er])) ∨
    (∃ (v : V) (lv fv : Value), decOf l = .inr v ∧ e = .returned (.tuple #[.agg #[.int .i64 v.kind, .bool v.yes, .int .i64 v.num, .string v.text, lv, fv], .int .i64 0]) ∧ v.At w' (fun x => w.heap.size ≤ x) lv fv))

set_option maxHeartbeats 4000000 in
set_option maxRecDepth 100000 in
theorem decode_any (s : ByteArray) (l : L8) (hs : s = ⟨l.toArray⟩) (w : World) : Calls Try.prog 19 #[.string s] w (DecodeP l w) := by
  have hsz : s.size = l.length := by rw [hs]; rfl
  have hO := Box.new w 26 #[.int .i64 0, .bool false, .int .i64 0, .string ⟨#[]⟩, .slice none 0 0, .slice none 0 0]
  have hb := (Below.refl w.heap.size w).alloc (Nat.le_refl _) (.cells #[.int .i64 0, .bool false, .int .i64 0, .string ⟨#[]⟩, .slice none 0 0, .slice none 0 0] 26)
  by_cases hl : 4096 < l.length
  · have hDec : Hid (decOf l = .inl 4) := Lib.hid (by unfold decOf; rw [if_pos hl])
    have hlen : (4096 : Int) < (s.size : Int) := by omega
    obtain ⟨⟨o0, o1, o2, o3, o4, o5⟩, f0, f1, f2, f3, f4, f5⟩ := hO.six
    clear hs hl hsz
    go_enter Try.func19, Try.ntmps19
    go_wp2
    refine bodyPost_ret (v := .tuple #[.agg #[.int .i64 0, .bool false, .int .i64 0, .string ⟨#[]⟩, .slice none 0 0, .slice none 0 0], .int .i64 4]) (by simp [results, Try.results19, go_sem]) rfl ?_
    exact ⟨hb, .inl ⟨4, hDec.out, rfl⟩⟩
  · have hlen : ¬ (4096 : Int) < (s.size : Int) := by omega
    have hread := read_any s (w.alloc (.cells #[.int .i64 0, .bool false, .int .i64 0, .string ⟨#[]⟩, .slice none 0 0, .slice none 0 0] 26))
    have hl5 : l.length ≤ 5000 := by omega
    have HS := Lib.hid hs
    clear hs hsz
    go_enter Try.func19, Try.ntmps19
    go_wp2_with fail
    refine hread.mono ?_
    rintro e w1 ⟨rfl, hr1, hb1⟩
    have hsw : (w.alloc (.cells #[.int .i64 0, .bool false, .int .i64 0, .string ⟨#[]⟩, .slice none 0 0, .slice none 0 0] 26)).heap.size = w.heap.size + 1 := by simp
    rw [hsw] at hr1 hb1 ⊢
    rw [HS.out] at hr1
    have hr2 : Rd (w1.alloc (.cells #[.pointer (some ⟨w.heap.size + 1, 0, none⟩)] 85)) (w.heap.size + 1) ⟨l.toArray⟩ false := (Below.heap_alloc w1 _ _ hr1.lt).trans hr1
    have hz1 := hr1.lt
    have hO1 : Box w1 w.heap.size 26 #[.int .i64 0, .bool false, .int .i64 0, .string ⟨#[]⟩, .slice none 0 0, .slice none 0 0] := (hb1.block _ (by omega)).trans hO
    have hO2 := hO1.alloc (.cells #[.pointer (some ⟨w.heap.size + 1, 0, none⟩)] 85)
    have hP2 := Box.new w1 85 #[.pointer (some ⟨w.heap.size + 1, 0, none⟩)]
    have hb2 := (hb.trans (hb1.mono (Nat.le_succ _))).alloc (by omega) (.cells #[.pointer (some ⟨w.heap.size + 1, 0, none⟩)] 85)
    have hcall := value_ok 32 0 _ l _ rfl hl5 hr2
    have p0 := hP2.cell 0
    simp only [List.getElem?_toArray, List.getElem?_cons_zero] at p0
    have hzz : (w1.alloc (.cells #[.pointer (some ⟨w.heap.size + 1, 0, none⟩)] 85)).heap.size = w1.heap.size + 1 := by simp
    have HDO : Hid (decOf l = match decV 32 l with | .inl e => .inl e | .inr (v, []) => .inr v | .inr (_, _ :: _) => .inl 2) := Lib.hid (by unfold decOf; rw [if_neg hl])
    clear hread hb1 hr1 hO1 hl hl5 hsw hO hb
    go_wp2_with fail
    refine hcall.mono ?_
    rintro e w3 (⟨er, s3, bad3, k3, y3, n3, t3, a1, n1, c1, a2, n2, c2, hd3, rfl, hg3⟩ | ⟨v, r3, lv, fv, hd3, rfl, hat3, hg3⟩)
    · have he23 := decV_err 32 _ er hd3
      have hDec : Hid (decOf l = .inl er) := Lib.hid (by rw [HDO.out, hd3])
      have he0 : (er == 0) = false := by rw [beq_eq_false_iff_ne]; omega
      have he1 : (er != 0) = true := by rw [bne, he0]; rfl
      have hO4 := (hO2.goes hg3 (by omega)).alloc (.cells #[.int .i64 k3, .bool y3, .int .i64 n3, .string t3, .slice a1 n1 c1, .slice a2 n2 c2] 26)
      have hb4 := (hb2.trans (hg3.frame (B := w.heap.size) (by omega) (by omega))).alloc (by have := hg3.2.size; omega) (.cells #[.int .i64 k3, .bool y3, .int .i64 n3, .string t3, .slice a1 n1 c1, .slice a2 n2 c2] 26)
      obtain ⟨⟨o0, o1, o2, o3, o4, o5⟩, f0, f1, f2, f3, f4, f5⟩ := hO4.six
      clear hcall hd3 hP2 hO2 hg3 he23 hr2 hb2 p0
      go_wp2
      have hF := ((((((hO4.setSame 0 (.int .i64 0)).setSame 1 (.bool false)).setSame 2 (.int .i64 0)).setSame 3 (.string ⟨#[]⟩)).setSame 4 (.slice none 0 0)).setSame 5 (.slice none 0 0))
      obtain ⟨⟨k0, k1, k2, k3', k4, k5⟩, _⟩ := Box.six (c0 := .int .i64 0) (c1 := .bool false) (c2 := .int .i64 0) (c3 := .string ⟨#[]⟩) (c4 := .slice none 0 0) (c5 := .slice none 0 0) hF
      refine bodyPost_ret (v := .tuple #[.agg #[.int .i64 0, .bool false, .int .i64 0, .string ⟨#[]⟩, .slice none 0 0, .slice none 0 0], .int .i64 er]) (by simp [results, Try.results19, go_sem, k0, k1, k2, k3', k4, k5]) rfl ?_
      exact ⟨((((((hb4.setCell (Nat.le_refl _) _).setCell (Nat.le_refl _) _).setCell (Nat.le_refl _) _).setCell (Nat.le_refl _) _).setCell (Nat.le_refl _) _).setCell (Nat.le_refl _) _), .inl ⟨er, hDec.out, rfl⟩⟩
    · obtain ⟨⟨ax, cx, rfl⟩, ⟨ay, cy, rfl⟩, _, _⟩ := hat3.is.len
      have hO4 := (hO2.goes hg3 (by omega)).alloc (.cells #[.int .i64 v.kind, .bool v.yes, .int .i64 v.num, .string v.text, .slice ax v.list.length cx, .slice ay v.fields.length cy] 26)
      have hP4 := (hP2.goes hg3 (by omega)).alloc (.cells #[.int .i64 v.kind, .bool v.yes, .int .i64 v.num, .string v.text, .slice ax v.list.length cx, .slice ay v.fields.length cy] 26)
      have hX4 := Box.new w3 26 #[.int .i64 v.kind, .bool v.yes, .int .i64 v.num, .string v.text, .slice ax v.list.length cx, .slice ay v.fields.length cy]
      have hG4 := hg3.alloc (.cells #[.int .i64 v.kind, .bool v.yes, .int .i64 v.num, .string v.text, .slice ax v.list.length cx, .slice ay v.fields.length cy] 26)
      have hb4 := (hb2.trans (hg3.frame (B := w.heap.size) (by omega) (by omega))).alloc (by have := hg3.2.size; omega) (.cells #[.int .i64 v.kind, .bool v.yes, .int .i64 v.num, .string v.text, .slice ax v.list.length cx, .slice ay v.fields.length cy] 26)
      have hat4 : v.At (w3.alloc (.cells #[.int .i64 v.kind, .bool v.yes, .int .i64 v.num, .string v.text, .slice ax v.list.length cx, .slice ay v.fields.length cy] 26)) (fun q => w.heap.size + 1 ≤ q) (.slice ax v.list.length cx) (.slice ay v.fields.length cy) :=
        V.At.move (fun q hq hlt => ⟨by omega, Below.heap_alloc w3 _ q hlt⟩) (by simp) _ (Nat.le_refl _) hat3
      have HAT := Lib.hid hat4
      have hfar : ∀ q, w.heap.size + 1 ≤ q → q ≠ w.heap.size := fun q h1 => by omega
      have HF := Lib.hid hfar
      obtain ⟨⟨o0, o1, o2, o3, o4, o5⟩, f0, f1, f2, f3, f4, f5⟩ := hO4.six
      obtain ⟨⟨x0, x1, x2, x3, x4, x5⟩, _⟩ := hX4.six
      have p4 := hP4.cell 0
      simp only [List.getElem?_toArray, List.getElem?_cons_zero] at p4
      clear hcall hat3 hP2 hO2 hr2 hb2 p0 hat4 hfar
      rcases r3 with _ | ⟨c, r3⟩
      · have hDec : Hid (decOf l = .inr v) := Lib.hid (by rw [HDO.out, hd3])
        have hE := end_done _ _ hG4.1
        clear hd3 hg3
        go_wp2_with fail
        refine hE.mono ?_
        rintro e w5 ⟨rfl, hw5⟩
        subst hw5
        clear hE
        go_wp2
        have hF := ((((((hO4.setSame 0 (.int .i64 v.kind)).setSame 1 (.bool v.yes)).setSame 2 (.int .i64 v.num)).setSame 3 (.string v.text)).setSame 4 (.slice ax v.list.length cx)).setSame 5 (.slice ay v.fields.length cy))
        obtain ⟨⟨k0, k1, k2, k3', k4, k5⟩, _⟩ := Box.six (c0 := .int .i64 v.kind) (c1 := .bool v.yes) (c2 := .int .i64 v.num) (c3 := .string v.text) (c4 := .slice ax v.list.length cx) (c5 := .slice ay v.fields.length cy) hF
        refine bodyPost_ret (v := .tuple #[.agg #[.int .i64 v.kind, .bool v.yes, .int .i64 v.num, .string v.text, .slice ax v.list.length cx, .slice ay v.fields.length cy], .int .i64 0]) (by simp [results, Try.results19, go_sem, k0, k1, k2, k3', k4, k5]) rfl ?_
        exact ⟨((((((hb4.setCell (Nat.le_refl _) _).setCell (Nat.le_refl _) _).setCell (Nat.le_refl _) _).setCell (Nat.le_refl _) _).setCell (Nat.le_refl _) _).setCell (Nat.le_refl _) _), .inr ⟨v, _, _, hDec.out, rfl, ((((((HAT.out.set HF.out _).set HF.out _).set HF.out _).set HF.out _).set HF.out _).set HF.out _).wider (fun q (hq : w.heap.size + 1 ≤ q) => by show w.heap.size ≤ q; omega)⟩⟩
      · have hDec : Hid (decOf l = .inl 2) := Lib.hid (by rw [HDO.out, hd3])
        have hE := end_left _ _ _ _ _ hG4.1
        clear hd3 hg3
        go_wp2_with fail
        refine hE.mono ?_
        rintro e w5 ⟨rfl, hw5⟩
        subst hw5
        clear hE
        go_wp2
        have hF := ((((((hO4.setSame 0 (.int .i64 0)).setSame 1 (.bool false)).setSame 2 (.int .i64 0)).setSame 3 (.string ⟨#[]⟩)).setSame 4 (.slice none 0 0)).setSame 5 (.slice none 0 0))
        obtain ⟨⟨k0, k1, k2, k3', k4, k5⟩, _⟩ := Box.six (c0 := .int .i64 0) (c1 := .bool false) (c2 := .int .i64 0) (c3 := .string ⟨#[]⟩) (c4 := .slice none 0 0) (c5 := .slice none 0 0) hF
        refine bodyPost_ret (v := .tuple #[.agg #[.int .i64 0, .bool false, .int .i64 0, .string ⟨#[]⟩, .slice none 0 0, .slice none 0 0], .int .i64 2]) (by simp [results, Try.results19, go_sem, k0, k1, k2, k3', k4, k5]) rfl ?_
        exact ⟨((((((hb4.setCell (Nat.le_refl _) _).setCell (Nat.le_refl _) _).setCell (Nat.le_refl _) _).setCell (Nat.le_refl _) _).setCell (Nat.le_refl _) _).setCell (Nat.le_refl _) _), .inl ⟨2, hDec.out, rfl⟩⟩

end Go.Proofs.Ytacphlceggbfcaa
