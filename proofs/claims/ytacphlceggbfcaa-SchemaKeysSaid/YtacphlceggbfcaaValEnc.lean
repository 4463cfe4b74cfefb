/-
  val's Encode: the bytes of a right value that aren't too many.
-/
import Derived.Test.YtacphlceggbfcaaValLay2
import Derived.Test.YtacphlceggbfcaaOPure
namespace Go.Proofs.Ytacphlceggbfcaa
open Go.RowKit

set_option maxHeartbeats 4000000 in
set_option maxRecDepth 100000 in
/-- a map -/
theorem lay_map (N : Nat) (ih : LayOK N) (v : V) (hd : v.dep ≤ N + 1) (lv fv : Value) (B : Nat) (v0 : Value) (l0 : L8) (w : World) (hfit : v.fit) (hat : v.At w (fun b => b < B) lv fv) (hB : B ≤ w.heap.size) (hown : Bs 5 B w v0 l0) (hl : l0.length ≤ 4096)
    (h4 : v.kind = 5) :
    Calls Try.prog 52 #[.agg #[.int .i64 v.kind, .bool v.yes, .int .i64 v.num, .string v.text, lv, fv], v0] w (LaidC B v0 (l0 ++ v.lay) w) := by
  obtain ⟨⟨a, c, rfl⟩, ⟨a', c', rfl⟩, hLb, _⟩ := hat.is.len
  obtain ⟨a0, c0, rfl⟩ := hown.lenEq
  have hdl : ∀ p ∈ v.fields, p.2.dep ≤ N := fun x hx => by have := dep_fields (v := v) hx; omega
  obtain ⟨k, y, n, t, l, f⟩ := v
  obtain ⟨_, _, _, _, hfl⟩ := hfit
  simp only [V.kind, V.yes, V.num, V.text, V.list, V.fields] at *
  subst h4
  have hlt : ¬ (4096 : Int) < (l0.length : Int) := by omega
  have hownB : Bs 5 B (w.alloc (.cells #[.int .i64 5, .bool y, .int .i64 n, .string t, .slice a l.length c, .slice a' f.length c'] 26)) (.slice a0 l0.length c0) l0 := World.ownsRow.alloc hown _
  have hBB : B ≤ (w.alloc (.cells #[.int .i64 5, .bool y, .int .i64 n, .string t, .slice a l.length c, .slice a' f.length c'] 26)).heap.size := by simp; omega
  have hlay : Hid ((V.mk 5 y n t l f).lay = 5 :: (octN f.length ++ layF f)) := Lib.hid rfl
  have hbw : Below B w (w.alloc (.cells #[.int .i64 5, .bool y, .int .i64 n, .string t, .slice a l.length c, .slice a' f.length c'] 26)) := (Below.refl _ _).alloc hB _
  have HAT := Lib.hid hat
  have HDL := Lib.hid hdl
  have HFL := Lib.hid hfl
  clear hfl hdl hd hat
  go_enter Try.func52, Try.ntmps52
  go_wp2_with (at_builtin; refine wpList_app1H _ (w.heap.size + 1) (by simp) rfl (.tmp 11) (.tmp 15) 44 rfl 5 B Try.underlying44 infoB _ l0 rfl hownB _ _ rfl (by decide) (by decide) (by omega) hBB ?_; intro v1 w1 hown1 hup1; have hc0 := (box_kept hown hup1 0); have hc5 := (box_kept hown hup1 5); simp at hc0 hc5)
  have hz1 := hup1.1.size
  have hb1 := hbw.trans (hup1.below hownB hBB)
  have hat1 := (V.at_iff.1 (HAT.out.low hb1)).2
  go_wp2_with fail
  refine (layF_any N ih f HDL.out _ B v1 _ w1 HFL.out hat1 (by omega) hown1 (by simp; omega)).mono ?_
  rintro e w2 ⟨v2, l2, rfl, hown2, hup2, hlc2⟩
  go_wp2
  go_ret
  exact ⟨v2, l2, rfl, hown2, (hup1.trans hup2).alloc, by rw [hlay.out]; simpa using hlc2⟩

/-- where there are too many bytes already -/
theorem lay_long (v : V) (lv fv : Value) (B : Nat) (v0 : Value) (l0 : L8) (w : World) (hat : v.At w (fun b => b < B) lv fv) (hown : Bs 5 B w v0 l0) (hl : l0.length ≤ 20000) (hlong : 4096 < l0.length) :
    Calls Try.prog 52 #[.agg #[.int .i64 v.kind, .bool v.yes, .int .i64 v.num, .string v.text, lv, fv], v0] w (LaidC B v0 (l0 ++ v.lay) w) := by
  obtain ⟨⟨a, c, rfl⟩, ⟨a', c', rfl⟩, _, _⟩ := hat.is.len
  obtain ⟨a0, c0, rfl⟩ := hown.lenEq
  have hlt : (4096 : Int) < (l0.length : Int) := by omega
  clear hat
  go_enter Try.func52, Try.ntmps52
  go_wp2
  go_ret
  exact ⟨_, l0, rfl, World.ownsRow.alloc hown _, ⟨grown_alloc' (World.grownBy.refl w _) _, .inl rfl⟩, LC.long hlong hl⟩

theorem lay_all : ∀ N, LayOK N
  | 0 => fun v lv fv B v0 l0 w hd _ _ _ _ _ => by
    cases v
    rw [V.dep] at hd
    omega
  | N + 1 => fun v lv fv B v0 l0 w hd hfit hat hB hown hl => by
    by_cases hlong : 4096 < l0.length
    · exact lay_long v lv fv B v0 l0 w hat hown hl hlong
    · by_cases h4 : v.kind = 4
      · exact lay_list N (lay_all N) v hd lv fv B v0 l0 w hfit hat hB hown (by omega) h4
      · by_cases h5 : v.kind = 5
        · exact lay_map N (lay_all N) v hd lv fv B v0 l0 w hfit hat hB hown (by omega) h5
        · exact lay_plain v lv fv B v0 l0 w hfit hat hB hown (by omega) h4 h5

theorem fit_of_lay : ∀ (d : Nat) (v : V), v.right d = true → v.n64 → v.lay.length ≤ 5000 → v.fit
  | 0, v, h, _, _ => by
    obtain ⟨h1, _⟩ := right_cases h
    omega
  | d + 1, v, h, hn, hlen => by
    have e0 : ByteArray.size ⟨#[]⟩ ≤ 5000 := by decide
    obtain ⟨_, rfl | ⟨y, rfl⟩ | ⟨n, rfl⟩ | ⟨t, rfl⟩ | ⟨l, rfl, hl⟩ | ⟨f, rfl, hf⟩⟩ := right_cases h
    · exact ⟨by omega, hn.1, e0, trivial, trivial⟩
    · exact ⟨by omega, hn.1, e0, trivial, trivial⟩
    · exact ⟨by omega, hn.1, e0, trivial, trivial⟩
    · rw [lay_ofText, List.length_cons] at hlen
      have := octT_ge t
      exact ⟨by omega, hn.1, by omega, trivial, trivial⟩
    · rw [lay_ofList, List.length_cons, List.length_append] at hlen
      exact ⟨by omega, hn.1, e0, fitL_iff.2 fun x hx => fit_of_lay d x (by have := hl x hx; simpa using this) (n64L_iff.1 hn.2.1 x hx) (by have := layL_mem hx; omega), trivial⟩
    · rw [lay_ofMap, List.length_cons, List.length_append] at hlen
      have hf' : rightF none f (d : Int) = true := by simpa using hf
      exact ⟨by omega, hn.1, e0, trivial, fitF_iff.2 fun p hp => by
        have h1 := layF_mem hp
        have h2 := octT_ge p.1
        obtain ⟨i, hi, rfl⟩ := List.getElem_of_mem hp
        exact ⟨by omega, fit_of_lay d _ ((rightF_iff.1 hf') i hi).1 (n64F_iff.1 hn.2.2 _ (List.getElem_mem hi)) (by omega)⟩⟩

/-- what Encode answers -/
def encOf (v : V) : Value := if v.right 32 = true then (if v.lay.length ≤ 4096 then .tuple #[.string ⟨v.lay.toArray⟩, .int .i64 0] else .tuple #[.string ⟨#[]⟩, .int .i64 4]) else .tuple #[.string ⟨#[]⟩, .int .i64 1]

set_option maxHeartbeats 4000000 in
set_option maxRecDepth 100000 in
theorem enc_any (v : V) (lv fv : Value) (w : World) (his : v.Is w lv fv) (hfit : v.right 32 = true → v.fit) :
    Calls Try.prog 18 #[.agg #[.int .i64 v.kind, .bool v.yes, .int .i64 v.num, .string v.text, lv, fv]] w fun e w' => e = .returned (encOf v) ∧ Below w.heap.size w w' := by
  obtain ⟨⟨a, c, rfl⟩, ⟨a', c', rfl⟩, _, _⟩ := his.len
  have hb0 : Below w.heap.size w (w.alloc (.cells #[.int .i64 v.kind, .bool v.yes, .int .i64 v.num, .string v.text, .slice a v.list.length c, .slice a' v.fields.length c'] 26)) := (Below.refl _ w).alloc (Nat.le_refl _) _
  have hr := right_any v _ _ _ (his.below hb0)
  cases hrr : v.right 32
  · rw [hrr] at hr
    have hE : Hid (encOf v = .tuple #[.string ⟨#[]⟩, .int .i64 1]) := Lib.hid (by unfold encOf; rw [hrr]; simp)
    clear hfit hrr his
    go_enter Try.func18, Try.ntmps18
    go_wp2_with fail
    refine hr.mono ?_
    rintro e w1 ⟨rfl, hb1⟩
    have hb := hb0.trans (hb1.mono (by simp))
    clear hr hb0 hb1
    go_wp2
    go_ret2
    exact ⟨by rw [hE.out]; rfl, hb⟩
  · rw [hrr] at hr
    have hfit := hfit hrr
    have hE : Hid (encOf v = if v.lay.length ≤ 4096 then .tuple #[.string ⟨v.lay.toArray⟩, .int .i64 0] else .tuple #[.string ⟨#[]⟩, .int .i64 4]) := Lib.hid (by unfold encOf; rw [hrr]; simp)
    have CV := Lib.hid (fun (B : Nat) (w' : World) (v : Value) (l : List UInt8) (h : Bs 5 B w' v l) => conv_bs (P := Try.prog) 5 B w' 44 9 Try.underlying44 Try.underlying5 Try.underlying9 v l h)
    have HFIT := Lib.hid hfit
    have HIS := Lib.hid his
    clear hfit hrr his
    go_enter Try.func18, Try.ntmps18
    go_wp2_with fail
    refine hr.mono ?_
    rintro e w1 ⟨rfl, hb1⟩
    have hb := hb0.trans (hb1.mono (by simp))
    have hzz := hb1.size
    have k0 := (hb1.cell (p := ⟨w.heap.size, 0, none⟩) (by simp)).trans (show _ = some (.int .i64 v.kind) by simp)
    have k1 := (hb1.cell (p := ⟨w.heap.size, 1, none⟩) (by simp)).trans (show _ = some (.bool v.yes) by simp)
    have k2 := (hb1.cell (p := ⟨w.heap.size, 2, none⟩) (by simp)).trans (show _ = some (.int .i64 v.num) by simp)
    have k3 := (hb1.cell (p := ⟨w.heap.size, 3, none⟩) (by simp)).trans (show _ = some (.string v.text) by simp)
    have k4 := (hb1.cell (p := ⟨w.heap.size, 4, none⟩) (by simp)).trans (show _ = some (.slice a v.list.length c) by simp)
    have k5 := (hb1.cell (p := ⟨w.heap.size, 5, none⟩) (by simp)).trans (show _ = some (.slice a' v.fields.length c') by simp)
    have hat : v.At w1 (fun b => b < w1.heap.size) (.slice a v.list.length c) (.slice a' v.fields.length c') := V.At.move (fun b _ hlt => ⟨Nat.lt_of_lt_of_le hlt hb.size, hb.block b hlt⟩) hb.size v.dep (Nat.le_refl _) HIS.out
    have hlay := lay_all v.dep v _ _ w1.heap.size (.slice none 0 0) [] w1 (Nat.le_refl _) HFIT.out hat (Nat.le_refl _) (Bs.nil _ _ _) (by simp)
    clear hr hb0 hb1 hat
    go_wp2_with fail
    refine hlay.mono ?_
    rintro e w2 ⟨v2, l2, rfl, hown2, hup2, hlc2⟩
    have hb2 := hb.trans ((hup2.below (Bs.nil 5 w1.heap.size w1) (Nat.le_refl _)).mono hb.size)
    obtain ⟨a2, c2, rfl⟩ := hown2.lenEq
    have hcv := CV.out _ _ _ _ hown2
    rw [List.nil_append] at hlc2
    obtain ⟨hl1, hl2, hl3⟩ := hlc2
    by_cases hlen : v.lay.length ≤ 4096
    · have e2 := hl2 hlen
      subst e2
      have hlt : ¬ (4096 : Int) < (v.lay.length : Int) := by omega
      have hE2 : Hid (encOf v = .tuple #[.string ⟨v.lay.toArray⟩, .int .i64 0]) := Lib.hid (by rw [hE.out, if_pos hlen])
      clear hlay hl2 hl3 hup2 hlen
      go_wp2
      go_ret2
      exact ⟨by rw [hE2.out]; rfl, hb2⟩
    · have e2 := hl3 (by omega)
      have hlt : (4096 : Int) < (l2.length : Int) := by omega
      have hE2 : Hid (encOf v = .tuple #[.string ⟨#[]⟩, .int .i64 4]) := Lib.hid (by rw [hE.out, if_neg hlen])
      clear hlay hl2 hl3 hup2 hlen
      go_wp2
      go_ret2
      exact ⟨by rw [hE2.out]; rfl, hb2⟩

end Go.Proofs.Ytacphlceggbfcaa
