/-
  val's decoder: a value that is a list.
-/
import Derived.Test.YtacphlceggbfcaaValDecL
import Derived.Test.YtacphlceggbfcaaValDec1
namespace Go.Proofs.Ytacphlceggbfcaa
open Go.RowKit

attribute [local irreducible] wpStill

set_option maxHeartbeats 4000000 in
set_option maxRecDepth 100000 in
theorem value_list (d o : Nat) (hd : o + d = 31) (ih : ValOK d) (b : Nat) (r : L8) (hr : r.length ≤ 5000) (w : World) (h : Rd w b ⟨(4 :: r).toArray⟩ false) :
    Calls Try.prog 54 #[.agg #[.pointer (some ⟨b, 0, none⟩)], .int .i64 o] w (DecP (decV (d + 1) (4 :: r)) b w) := by
  have hbl := h.lt
  have hg0 : Goes w b ⟨(4 :: r).toArray⟩ false ((w.alloc (.cells #[.pointer (some ⟨b, 0, none⟩)] 85)).alloc (.cells #[.int .i64 0, .bool false, .int .i64 0, .string ⟨#[]⟩, .slice none 0 0, .slice none 0 0] 26)) :=
    (Goes.refl h).below (((Below.refl _ w).alloc (Nat.le_refl _) _).alloc (by simp) _)
  have hraw := raw_one b 4 r (by omega) _ hg0.1
  have ho : ((o : Int) == 32) = false := by rw [beq_eq_false_iff_ne]; omega
  have hc0 : ∀ h, (((({ data := #[4] } : ByteArray)[0]'h).toNat : Int) = 4) := fun _ => rfl
  go_enter Try.func54, Try.ntmps54
  go_wp2_with fail
  refine hraw.mono ?_
  rintro e w1 ⟨rfl, hg1⟩
  have hB1 : Box w1 w.heap.size 85 #[.pointer (some ⟨b, 0, none⟩)] := (((Box.new w 85 #[.pointer (some ⟨b, 0, none⟩)]).alloc _).goes hg1 (by omega))
  have hB2 : Box w1 (w.heap.size + 1) 26 #[.int .i64 0, .bool false, .int .i64 0, .string ⟨#[]⟩, .slice none 0 0, .slice none 0 0] := by
    have := Box.new (w.alloc (.cells #[.pointer (some ⟨b, 0, none⟩)] 85)) 26 #[.int .i64 0, .bool false, .int .i64 0, .string ⟨#[]⟩, .slice none 0 0, .slice none 0 0]
    rw [show (w.alloc (.cells #[.pointer (some ⟨b, 0, none⟩)] 85)).heap.size = w.heap.size + 1 by simp] at this
    exact this.goes hg1 (by omega)
  have hz1 : w.heap.size + 2 ≤ w1.heap.size := by
    have := hg1.2.size
    simp at this
    omega
  have hV := Box.new w1 26 #[.int .i64 4, .bool false, .int .i64 0, .string ⟨#[]⟩, .slice none 0 0, .slice none 0 0]
  have hP := hB1.alloc (.cells #[.int .i64 4, .bool false, .int .i64 0, .string ⟨#[]⟩, .slice none 0 0, .slice none 0 0] 26)
  have hO := hB2.alloc (.cells #[.int .i64 4, .bool false, .int .i64 0, .string ⟨#[]⟩, .slice none 0 0, .slice none 0 0] 26)
  have hG := (hg0.trans hg1).alloc (.cells #[.int .i64 4, .bool false, .int .i64 0, .string ⟨#[]⟩, .slice none 0 0, .slice none 0 0] 26)
  have p0 := hP.cell 0
  obtain ⟨⟨v0, v1, v2, v3, v4, v5⟩, _⟩ := hV.six
  simp only [List.getElem?_toArray, List.getElem?_cons_zero] at p0
  have hcall := list_dec d o hd ih b r hr _ hG.1
  have hDec : Hid (decV (d + 1) (4 :: r) = decBody d r) := Lib.hid rfl
  clear hraw hB1 hB2 hg0
  go_wp2_with fail
  refine hcall.mono ?_
  rintro e w3 (⟨er, s3, bad3, k3, y3, n3, t3, a1, n1, c1, a2, n2, c2, hd3, rfl, hg3⟩ | ⟨x, r3, lv, fv, hd3, rfl, hat3, hg3⟩)
  · have hO4 := hO.goes hg3 (by omega)
    have hG4 := hG.trans hg3
    have hD3 := Lib.hid hd3
    clear hcall hd3 hP hV hO hG hg3 p0 v0 v1 v2 v3 v4 v5
    obtain ⟨⟨o0, o1, o2, o3, o4, o5⟩, f0, f1, f2, f3, f4, f5⟩ := hO4.six
    go_wp2
    have hF := ((((((hO4.setSame 0 (.int .i64 k3)).setSame 1 (.bool y3)).setSame 2 (.int .i64 n3)).setSame 3 (.string t3)).setSame 4 (.slice a1 n1 c1)).setSame 5 (.slice a2 n2 c2))
    obtain ⟨⟨k0, k1, k2, k3', k4, k5⟩, _⟩ := Box.six (c0 := .int .i64 k3) (c1 := .bool y3) (c2 := .int .i64 n3) (c3 := .string t3) (c4 := .slice a1 n1 c1) (c5 := .slice a2 n2 c2) hF
    refine bodyPost_ret (v := .tuple #[.agg #[.int .i64 k3, .bool y3, .int .i64 n3, .string t3, .slice a1 n1 c1, .slice a2 n2 c2], .int .i64 er]) (by simp [results, Try.results54, go_sem, k0, k1, k2, k3', k4, k5]) rfl ?_
    exact .inl ⟨er, _, _, _, _, _, _, _, _, _, _, _, _, hDec.out.trans hD3.out, rfl, ((((((hG4.set hbl (by simp) _).set hbl (by simp) _).set hbl (by simp) _).set hbl (by simp) _).set hbl (by simp) _).set hbl (by simp) _)⟩
  · obtain ⟨⟨ax, cx, rfl⟩, ⟨ay, cy, rfl⟩, _, _⟩ := hat3.is.len
    have hO4 := hO.goes hg3 (by omega)
    have hG4 := hG.trans hg3
    have hD3 := Lib.hid hd3
    have HX := Lib.hid (V.At.wider (S' := fun q => w1.heap.size ≤ q) hat3 (fun q (hq : (w1.alloc _).heap.size ≤ q) => by simp at hq; show w1.heap.size ≤ q; omega))
    have hfar : ∀ q, w1.heap.size ≤ q → q ≠ w.heap.size + 1 := fun q h1 => by omega
    have HF := Lib.hid hfar
    clear hcall hd3 hP hV hO hG hg3 p0 v0 v1 v2 v3 v4 v5 hat3 hfar
    obtain ⟨⟨o0, o1, o2, o3, o4, o5⟩, f0, f1, f2, f3, f4, f5⟩ := hO4.six
    go_wp2
    have hF := ((((((hO4.setSame 0 (.int .i64 x.kind)).setSame 1 (.bool x.yes)).setSame 2 (.int .i64 x.num)).setSame 3 (.string x.text)).setSame 4 (.slice ax x.list.length cx)).setSame 5 (.slice ay x.fields.length cy))
    obtain ⟨⟨k0, k1, k2, k3', k4, k5⟩, _⟩ := Box.six (c0 := .int .i64 x.kind) (c1 := .bool x.yes) (c2 := .int .i64 x.num) (c3 := .string x.text) (c4 := .slice ax x.list.length cx) (c5 := .slice ay x.fields.length cy) hF
    refine bodyPost_ret (v := .tuple #[.agg #[.int .i64 x.kind, .bool x.yes, .int .i64 x.num, .string x.text, .slice ax x.list.length cx, .slice ay x.fields.length cy], .int .i64 0]) (by simp [results, Try.results54, go_sem, k0, k1, k2, k3', k4, k5]) rfl ?_
    exact .inr ⟨x, r3, .slice ax x.list.length cx, .slice ay x.fields.length cy, hDec.out.trans hD3.out, rfl, (((((((HX.out.set HF.out _).set HF.out _).set HF.out _).set HF.out _).set HF.out _).set HF.out _)).wider (fun q (hq : w1.heap.size ≤ q) => by show w.heap.size ≤ q; omega), ((((((hG4.set hbl (by simp) _).set hbl (by simp) _).set hbl (by simp) _).set hbl (by simp) _).set hbl (by simp) _).set hbl (by simp) _)⟩

end Go.Proofs.Ytacphlceggbfcaa
