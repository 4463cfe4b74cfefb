/-
  wire's laws: two questions apart, plainly; held against each other; the head; a question among a law's arguments.
-/
import Derived.Test.YtcncoppnkodhmabWEnc
import Derived.Test.YtcncoppnkodhmabIsRow
import Derived.Deep.Strs
import Derived.Lib.SmallJoins
import Derived.ProofKit
namespace Go.Proofs.Ytcncoppnkodhmab
open Go.RowKit bsK Go.ChangeShapes Go.WideShapes Go.ChangeAt

set_option linter.unusedVariables false
set_option linter.unusedSimpArgs false

theorem octN_apart (m n : Nat) (hm : m < 2 ^ 64) (hn : n < 2 ^ 64) (r s : List UInt8) (h : octN m ++ r = octN n ++ s) : m = n ∧ r = s := by
  have h1 := numRead_laid m (2 ^ 64) r hm
  have h2 := numRead_laid n (2 ^ 64) s hn
  rw [if_pos (by omega)] at h1 h2
  rw [h, h2] at h1
  simp only [Option.some.injEq, Prod.mk.injEq] at h1
  exact ⟨h1.1.symm, h1.2.symm⟩

theorem octT_apart (x y : ByteArray) (hx : x.size < 2 ^ 64) (hy : y.size < 2 ^ 64) (r s : List UInt8) (h : octT x ++ r = octT y ++ s) : x = y ∧ r = s := by
  have h1 := textRead_laid x (2 ^ 64) r hx
  have h2 := textRead_laid y (2 ^ 64) s hy
  rw [if_pos (by omega)] at h1 h2
  rw [h, h2] at h1
  simp only [Option.some.injEq, Prod.mk.injEq] at h1
  exact ⟨ByteArray.ext (Array.toList_inj.1 h1.1.symm), h1.2.symm⟩

theorem octA_apart {p q : Ak} (hp : p.right = true) (hq : q.right = true) (r s : List UInt8) (h : octA p ++ r = octA q ++ s) : p = q ∧ r = s := by
  obtain ⟨a1, a2, a3, a4⟩ := Ak.of_right hp
  obtain ⟨b1, b2, b3, b4⟩ := Ak.of_right hq
  have p0 := a1 0; have p1 := a1 1; have p2 := a1 2; have p3 := a1 3; have p5 := a2 0; have p6 := a2 1
  have q0 := b1 0; have q1 := b1 1; have q2 := b1 2; have q3 := b1 3; have q5 := b2 0; have q6 := b2 1
  simp only [Ak.tx, Ak.nu] at p0 p1 p2 p3 p5 p6 q0 q1 q2 q3 q5 q6
  obtain ⟨po, pa, pb, pc, pd, pn, pm⟩ := p
  obtain ⟨qo, qa, qb, qc, qd, qn, qm⟩ := q
  simp only at *
  unfold octA at h
  simp only [List.append_assoc] at h
  obtain ⟨e0, h0⟩ := octN_apart _ _ (by omega) (by omega) _ _ h
  obtain ⟨e1, h1⟩ := octT_apart _ _ (by omega) (by omega) _ _ h0
  obtain ⟨e2, h2⟩ := octT_apart _ _ (by omega) (by omega) _ _ h1
  obtain ⟨e3, h3⟩ := octT_apart _ _ (by omega) (by omega) _ _ h2
  obtain ⟨e4, h4⟩ := octT_apart _ _ (by omega) (by omega) _ _ h3
  obtain ⟨e5, h5⟩ := octN_apart _ _ (by omega) (by omega) _ _ h4
  obtain ⟨e6, h6⟩ := octN_apart _ _ (by omega) (by omega) _ _ h5
  clear h h0 h1 h2 h3 h4 h5
  obtain rfl : po = qo := by omega
  obtain rfl : pn = qn := by omega
  obtain rfl : pm = qm := by omega
  subst e1 e2 e3 e4
  exact ⟨rfl, h6⟩

theorem octA_cut {p q : Ak} (hp : p.right = true) (hq : q.right = true) (k : Nat) (hk : k = min (octA p).length (octA q).length) (h : (octA p).take k = (octA q).take k) : p = q := by
  rcases Nat.le_total (octA p).length (octA q).length with hh | hh
  · have e : k = (octA p).length := by omega
    rw [e, List.take_length] at h
    refine (octA_apart hp hq ((octA q).drop (octA p).length) [] ?_).1
    rw [List.append_nil]
    conv => lhs; lhs; rw [h]
    exact List.take_append_drop _ _
  · have e : k = (octA q).length := by omega
    rw [e, List.take_length] at h
    refine (octA_apart hp hq [] ((octA p).drop (octA q).length) ?_).1
    rw [List.append_nil]
    conv => rhs; lhs; rw [← h]
    exact (List.take_append_drop _ _).symm

noncomputable def smA (p : Prop) : Bool := @decide p (Classical.propDecidable p)
theorem smA_true {p : Prop} (h : p) : smA p = true := @decide_eq_true p (Classical.propDecidable p) h
theorem smA_false {p : Prop} (h : ¬ p) : smA p = false := @decide_eq_false p (Classical.propDecidable p) h

theorem blA_inj {a b : ByteArray} (h : a.toList = b.toList) : a = b := by
  rw [Lib.toList_data, Lib.toList_data] at h
  exact ByteArray.ext (Array.toList_inj.1 h)
theorem akTexts_same {p q : Ak} (hp : p.right = true) (hq : q.right = true) (x y : ByteArray) (hx : x = ⟨(octA p).toArray⟩) (hy : y = ⟨(octA q).toArray⟩) :
    (x.toList == y.toList) = smA (p = q) ∧ ((x.extract 0 (min x.size y.size)).toList == (y.extract 0 (min x.size y.size)).toList) = smA (p = q) := by
  have hxs : x.size = (octA p).length := by rw [hx]; rfl
  have hys : y.size = (octA q).length := by rw [hy]; rfl
  by_cases hpq : p = q
  · have hxy : x = y := by rw [hx, hy, hpq]
    rw [smA_true hpq, hxy]
    simp
  · rw [smA_false hpq, Lib.toList_data, Lib.toList_data, Lib.toList_data, Lib.toList_data, Lib.extract_data, Lib.extract_data, beq_eq_false_iff_ne, beq_eq_false_iff_ne, hxs, hys, hx, hy]
    constructor
    · intro h
      exact hpq (octA_apart hp hq [] [] (by rw [List.append_nil, List.append_nil]; simpa using h)).1
    · intro h
      exact hpq (octA_cut hp hq _ rfl (by simpa using h))

theorem ak_eql (p q : Ak) (W : World) : (binOp .eql 24 (.agg #[.int .i64 p.op, .string p.a, .string p.b, .string p.c, .string p.d, .int .i64 p.n, .int .i64 p.m]) (.agg #[.int .i64 q.op, .string q.a, .string q.b, .string q.c, .string q.d, .int .i64 q.n, .int .i64 q.m])).run Try.prog W = .ok (.bool (smA (p = q))) W := by
  obtain ⟨po, pa, pb, pc, pd, pn, pm⟩ := p
  obtain ⟨qo, qa, qb, qc, qd, qn, qm⟩ := q
  obtain ⟨S, hS⟩ : ∃ S, S = smA ((⟨po, pa, pb, pc, pd, pn, pm⟩ : Ak) = ⟨qo, qa, qb, qc, qd, qn, qm⟩) := ⟨_, rfl⟩
  rw [← hS]
  have HS := Lib.hid hS
  clear hS
  go_simp
  rw [HS.out]
  by_cases h0 : po = qo
  · by_cases h1 : pa = qa
    · by_cases h2 : pb = qb
      · by_cases h3 : pc = qc
        · by_cases h4 : pd = qd
          · by_cases h5 : pn = qn
            · by_cases h6 : pm = qm
              · rw [smA_true (by rw [h0, h1, h2, h3, h4, h5, h6])]
                simp [h0, h1, h2, h3, h4, h5, h6]
              · rw [smA_false (by intro h; injection h; contradiction)]
                simp [h6]
            · rw [smA_false (by intro h; injection h; contradiction)]
              simp [h5]
          · rw [smA_false (by intro h; injection h; contradiction)]
            have : ¬ pd.toList = qd.toList := fun h => h4 (blA_inj h)
            simp [this]
        · rw [smA_false (by intro h; injection h; contradiction)]
          have : ¬ pc.toList = qc.toList := fun h => h3 (blA_inj h)
          simp [this]
      · rw [smA_false (by intro h; injection h; contradiction)]
        have : ¬ pb.toList = qb.toList := fun h => h2 (blA_inj h)
        simp [this]
    · rw [smA_false (by intro h; injection h; contradiction)]
      have : ¬ pa.toList = qa.toList := fun h => h1 (blA_inj h)
      simp [this]
  · rw [smA_false (by intro h; injection h; contradiction)]
    simp [h0]

set_option maxHeartbeats 1000000 in
theorem head18_any (w : World) : Calls Try.prog 9 #[] w fun e w' => e = .returned (.bool true) ∧ Below w.heap.size w w' := by
  have HC : Hid (Calls Try.prog 10 #[.agg #[.int .i64 1, .string ⟨#[]⟩, .string ⟨#[]⟩, .string ⟨#[]⟩, .string ⟨#[]⟩, .int .i64 0, .int .i64 0]] w fun e w' => e = .returned (.tuple #[.string ⟨#[1, 1, 0, 0, 0, 0, 0, 0]⟩, .int .i64 0]) ∧ Below w.heap.size w w') := Lib.hid (by
    refine (wenc_yes ⟨1, ⟨#[]⟩, ⟨#[]⟩, ⟨#[]⟩, ⟨#[]⟩, 0, 0⟩ w (by kernel_rfl)).mono ?_
    rintro e w' ⟨rfl, hb⟩
    exact ⟨by rw [show octA ⟨1, ⟨#[]⟩, ⟨#[]⟩, ⟨#[]⟩, ⟨#[]⟩, 0, 0⟩ = [1, 1, 0, 0, 0, 0, 0, 0] by kernel_rfl], hb⟩)
  go_enter Try.func9, Try.ntmps9
  go_wp2_with fail
  refine HC.out.mono ?_
  rintro e w' ⟨rfl, hb⟩
  go_wp2
  go_ret
  exact ⟨rfl, hb⟩

theorem trod_struct7 {P : Program} {H : Type} {enc : TypeId × Value → H} {w : World} {base : Nat} {spare : Nat → Bool} {held : Bool} {t : TypeId} {f0 f1 f2 f3 f4 f5 f6 : Field} {fuel : Nat} {cs : List Value} {x : DataW H × List MemPlace}
    (ht : P.underlying t = some (.struct #[f0, f1, f2, f3, f4, f5, f6])) (h : DataW.trod enc P w base spare held fuel t cs = some x) :
    ∃ y0 y1 y2 y3 y4 y5 y6 n, cs.length = P.cellsOf t ∧ DataW.trod enc P w base spare held n f0.type ((cs.drop f0.offset).take (P.cellsOf f0.type)) = some y0 ∧
      DataW.trod enc P w base spare held n f1.type ((cs.drop f1.offset).take (P.cellsOf f1.type)) = some y1 ∧ DataW.trod enc P w base spare held n f2.type ((cs.drop f2.offset).take (P.cellsOf f2.type)) = some y2 ∧
      DataW.trod enc P w base spare held n f3.type ((cs.drop f3.offset).take (P.cellsOf f3.type)) = some y3 ∧ DataW.trod enc P w base spare held n f4.type ((cs.drop f4.offset).take (P.cellsOf f4.type)) = some y4 ∧
      DataW.trod enc P w base spare held n f5.type ((cs.drop f5.offset).take (P.cellsOf f5.type)) = some y5 ∧ DataW.trod enc P w base spare held n f6.type ((cs.drop f6.offset).take (P.cellsOf f6.type)) = some y6 := by
  obtain ⟨xs, n, _, rfl, hl, hlen, hf⟩ := DataW.trod_struct ht h
  match xs, hlen with
  | [y0, y1, y2, y3, y4, y5, y6], _ => exact ⟨y0, y1, y2, y3, y4, y5, y6, n, hl, by simpa using hf 0 f0 rfl, by simpa using hf 1 f1 rfl, by simpa using hf 2 f2 rfl, by simpa using hf 3 f3 rfl, by simpa using hf 4 f4 rfl, by simpa using hf 5 f5 rfl, by simpa using hf 6 f6 rfl⟩

theorem cellsAk : Try.prog.cellsOf 24 = 7 := by kernel_rfl

set_option maxRecDepth 100000 in
/-- a question among a law's arguments -/
theorem ak_arg {H : Type} {enc : TypeId × Value → H} {W : World} {base : Nat} {sp : Nat → Bool} {held : Bool} {v : Value} {d : DataW H} {ps : List MemPlace}
    (h : DataW.Trod enc Try.prog W base sp held 24 v d ps) : ∃ q : Ak, v = .agg q.cells ∧ q.a.size ≤ maxLen ∧ q.b.size ≤ maxLen ∧ q.c.size ≤ maxLen ∧ q.d.size ≤ maxLen := by
  obtain ⟨fuel, hf⟩ := h
  obtain ⟨y0, y1, y2, y3, y4, y5, y6, m, hl, h0, h1, h2, h3, h4, h5, h6⟩ := trod_struct7 Try.underlying24 hf
  rw [cellsAk] at hl
  obtain ⟨cs, hcs⟩ : ∃ cs, cs = v.cells.toList := ⟨_, rfl⟩
  have hl' : cs.length = 7 := by rw [hcs]; simpa using hl
  obtain ⟨c0, c1, c2, c3, c4, c5, c6, hc7⟩ : ∃ c0 c1 c2 c3 c4 c5 c6, cs = [c0, c1, c2, c3, c4, c5, c6] := by
    rcases cs with _ | ⟨c0, _ | ⟨c1, _ | ⟨c2, _ | ⟨c3, _ | ⟨c4, _ | ⟨c5, _ | ⟨c6, _ | ⟨c7, r⟩⟩⟩⟩⟩⟩⟩⟩
    all_goals first | (exact ⟨c0, c1, c2, c3, c4, c5, c6, rfl⟩) | (simp at hl')
  rw [← hcs, hc7] at h0 h1 h2 h3 h4 h5 h6
  obtain ⟨o, e0, _, _⟩ := DataW.trod_int Try.underlying22 h0
  obtain ⟨a, e1, _, w1⟩ := DataW.trod_string Try.underlying9 h1
  obtain ⟨b, e2, _, w2⟩ := DataW.trod_string Try.underlying9 h2
  obtain ⟨c, e3, _, w3⟩ := DataW.trod_string Try.underlying9 h3
  obtain ⟨dd, e4, _, w4⟩ := DataW.trod_string Try.underlying9 h4
  obtain ⟨n, e5, _, _⟩ := DataW.trod_int Try.underlying3 h5
  obtain ⟨mm, e6, _, _⟩ := DataW.trod_int Try.underlying3 h6
  refine ⟨⟨o, a, b, c, dd, n, mm⟩, ?_, w1, w2, w3, w4⟩
  have f0 : c0 = .int .i64 o := by
    have : [c0] = [.int .i64 o] := e0
    simpa using this
  have f1 : c1 = .string a := by
    have : [c1] = [.string a] := e1
    simpa using this
  have f2 : c2 = .string b := by
    have : [c2] = [.string b] := e2
    simpa using this
  have f3 : c3 = .string c := by
    have : [c3] = [.string c] := e3
    simpa using this
  have f4 : c4 = .string dd := by
    have : [c4] = [.string dd] := e4
    simpa using this
  have f5 : c5 = .int .i64 n := by
    have : [c5] = [.int .i64 n] := e5
    simpa using this
  have f6 : c6 = .int .i64 mm := by
    have : [c6] = [.int .i64 mm] := e6
    simpa using this
  rw [f0, f1, f2, f3, f4, f5, f6] at hc7
  rw [hc7] at hcs
  cases v with
  | agg as' =>
    have hc : as'.toList = [.int .i64 o, .string a, .string b, .string c, .string dd, .int .i64 n, .int .i64 mm] := by rw [hcs]; simp [Value.cells]
    show Value.agg as' = .agg #[.int .i64 o, .string a, .string b, .string c, .string dd, .int .i64 n, .int .i64 mm]
    rw [show as' = ([.int .i64 o, .string a, .string b, .string c, .string dd, .int .i64 n, .int .i64 mm] : List Value).toArray by rw [← hc]]
  | _ => exfalso; simp [Value.cells] at hcs

end Go.Proofs.Ytcncoppnkodhmab
