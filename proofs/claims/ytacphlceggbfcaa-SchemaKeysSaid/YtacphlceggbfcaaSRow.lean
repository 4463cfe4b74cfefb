/-
  A slice of texts that came in, opened; texts appended to a row that the call owns.
-/
import Derived.Test.YtacphlceggbfcaaOKey
import Derived.Test.YtacphlceggbfcaaRowB
import Derived.SliceStrings
namespace Go.Proofs.Ytacphlceggbfcaa.sRow
open Go.ChangeShapes Go.WideShapes Go.ChangeAt Go.RowKit Go.Proofs.Ytacphlceggbfcaa.rowB

/-- WHAT A WALK IS TOLD OF A SLICE OF TEXTS THAT CAME IN. -/
def Came (w : World) (a : Option Addr) (len cap : Nat) (ps : List ByteArray) : Prop :=
  SRow w a ps ∧ ps.length = len ∧ len ≤ cap ∧ cap ≤ maxLen ∧ (a = none → cap = 0) ∧ ∀ s ∈ ps, s.size ≤ maxLen

theorem came_of {H : Type} {enc : TypeId × Value → H} {W : World} {a : Option Addr} {len cap : Nat} {base : Nat} {sp : Bool} {d : DataW H} {pl : List MemPlace}
    (h : DataW.Trod enc Try.prog W base (fun _ => true) sp 59 (.slice a len cap) d pl) : ∃ ps, Came W a len cap ps := by
  obtain ⟨fuel, hf⟩ := h
  rcases open_strings Try.underlying59 Try.underlying9 (by kernel_rfl) hf with ⟨hcs, _⟩ | ⟨x, l, c, ss, hcs, _, hl, hmx, hz, _, hcell, hsz⟩
  · simp [Value.cells] at hcs
    obtain ⟨rfl, rfl, rfl⟩ := hcs
    exact ⟨[], .inl rfl, rfl, Nat.le_refl _, by unfold maxLen; omega, fun _ => rfl, fun s hs => by cases hs⟩
  · simp [Value.cells] at hcs
    obtain ⟨rfl, rfl, rfl⟩ := hcs
    have hz' : ss.length = cap := by simpa using hz
    refine ⟨ss.take len, ?_, by simp; omega, hl, hmx, fun h => (by cases h), fun s hs => hsz s (List.mem_of_mem_take hs)⟩
    by_cases h0 : len = 0
    · subst h0; exact .inl rfl
    · have hspot : x.spot = none := by
        have h1 := hcell 0 (by omega)
        simpa [Addr.add] using World.cell?_spot h1
      obtain ⟨b, off, spot⟩ := x
      have hspot : spot = none := hspot
      subst hspot
      have hat : ∀ i, (⟨b, off, none⟩ : Addr).add i = ⟨b, off + i, none⟩ := fun i => by
        unfold Addr.add
        by_cases h1 : i = 0 <;> simp [h1]
      refine .inr ⟨b, off, rfl, ?_, fun i hi => ?_⟩
      · have := World.block_lt_of_cell? W _ (hcell 0 (by omega))
        rwa [hat] at this
      · have hi' : i < len := by simp at hi; omega
        have h1 := hcell i (by omega)
        rw [hat] at h1
        rw [h1]
        simp [List.getD, show i < ss.length by omega]

theorem Came.below {w W : World} {a : Option Addr} {len cap : Nat} {ps : List ByteArray} (h : Came w a len cap ps) (hb : Below w.heap.size w W) : Came W a len cap ps := ⟨h.1.below hb, h.2⟩

/-- 'v' owns the texts 'ps', in a block from B on. -/
def Ss (B : Nat) (w : World) (v : Value) (ps : List ByteArray) : Prop := w.ownsRow B 9 1 v ps.length (ps.map Value.string)

theorem Ss.srow {B : Nat} {w : World} {a : Option Addr} {n c : Nat} {ps : List ByteArray} (h : Ss B w (.slice a n c) ps) : n = ps.length ∧ SRow w a ps := by
  rcases h.2 with ⟨hv, h0⟩ | ⟨g, cap, cur, hv, hB, hg, hle, hm, hcs, htk⟩
  · injection hv with h1 h2 h3
    exact ⟨by omega, .inl (List.eq_nil_of_length_eq_zero h0)⟩
  · have hcells := World.ownsRow.cells h (g := g) (by rw [hv]; rfl)
    have hlt := (World.ownsRow.lt h g (by rw [hv]; rfl)).2
    injection hv with h1 h2 h3
    refine ⟨h2, .inr ⟨g, 0, h1, hlt, fun i hi => ?_⟩⟩
    have h1 := hcells i (.string ps[i]) (by simp [hi])
    have e : (⟨g, 0, none⟩ : Addr).add i = ⟨g, 0 + i, none⟩ := by unfold Addr.add; by_cases h2 : i = 0 <;> simp [h2]
    rw [e] at h1
    exact h1

theorem Ss.form {B : Nat} {w : World} {v : Value} {ps : List ByteArray} (h : Ss B w v ps) : ∃ a c, v = .slice a ps.length c := by
  rcases h.2 with ⟨rfl, h0⟩ | ⟨g, cap, cur, rfl, _⟩
  · exact ⟨none, 0, by rw [h0]⟩
  · exact ⟨_, _, rfl⟩

theorem infoS : (Try.prog.info? 9).map (fun i => (i.zero, i.size, i.bytes)) = some (some (.string ⟨#[]⟩), 1, 16) := by kernel_rfl

theorem ss_empty (w : World) (B : Nat) (hB : B ≤ w.heap.size) : Ss B (w.alloc (.cells #[] 9)) (.slice (some ⟨w.heap.size, 0, none⟩) 0 0) [] :=
  World.ownsRow_made w #[] 0 hB (by decide) rfl

theorem ss_nil (w : World) (B : Nat) : Ss B w (.slice none 0 0) [] := World.ownsRow_nil w B 9 1

set_option maxRecDepth 100000 in
/-- texts appended -/
theorem wpList_app_s (w : World) {ops : Array Oper} {rest : List Oper} {o : Oper} {a : Act} {Q : Exit → Act → World → Prop} (hgd : o.guard = none) (s x : Operand)
    (ho : o.op = .call { callee := .builtin .append, args := #[s, x], argTypes := #[59, 59] })
    (B : Nat) (v : Value) (ps : List ByteArray) (hs : a.eval s = v) (hown : Ss B w v ps) (ab : Option Addr) (len cap : Nat) (qs : List ByteArray) (hrow : SRow w ab qs) (hlen : qs.length = len) (hnone : ab = none → cap = 0)
    (hx : a.eval x = .slice ab len cap) (h63 : ps.length + len ≤ 1000000) (hbase : B ≤ w.heap.size)
    (h : ∀ v' w', Ss B w' v' (ps ++ qs) → Up w v w' v' → wpList Try.prog ops Q rest (a.put o.dst v') w') :
    wpList Try.prog ops Q (o :: rest) a w := by
  obtain ⟨i, hi, hz0, hi1, hi2⟩ := info_parts infoS
  subst hlen
  match ab, hrow, hnone, hx with
  | none, hrow, hnone, hx =>
    obtain rfl := hnone rfl
    have hq : qs = [] := by
      rcases hrow with h | ⟨b, off, e, _⟩
      · exact h
      · cases e
    subst hq
    exact wpList_append_own_none hgd s x 59 ho B 9 i 1 Try.underlying59 hi v ps.length (ps.map Value.string) hs hown hx (h v w (by simpa using hown) (Up.refl w v))
  | some ad, hrow, _, hx =>
    refine wpList_plain hgd fun K hK => ?_
    have hn : ∀ j u, (qs.map Value.string)[j]? = some u → w.cell? (ad.add j) = some u := by
      intro j u hj
      rcases hrow with rfl | ⟨b, off, e, _, hc⟩
      · simp at hj
      · have hj' : j < qs.length := by
          have := (List.getElem?_eq_some_iff.1 hj).1
          simpa using this
        injection e with e
        subst e
        have e : (⟨b, off, none⟩ : Addr).add j = ⟨b, off + j, none⟩ := by unfold Addr.add; by_cases h2 : j = 0 <;> simp [h2]
        rw [e, hc j hj']
        simp [List.getElem?_eq_getElem hj'] at hj
        rw [← hj]
    obtain ⟨v', w', hr, ho', hu⟩ := run_app (P := Try.prog) w B 59 o.type 9 i (.string ⟨#[]⟩) 1 16 Try.underlying59 hi hz0 hi1 hi2 rfl (by decide) v ps.length (ps.map Value.string) hown
      ad qs.length cap (qs.map Value.string) (by simp) hn (by intro u hu; simp at hu; obtain ⟨z, _, rfl⟩ := hu; rfl) (by unfold maxLen; omega) (by omega) hbase
    unfold Oper.wp execOp
    simp only [ho, resolve, invoke, builtin, Sem.run_bind, Sem.run_pure, Result.andThen_ok, List.map_toArray, List.map_cons, List.map_nil, hs, hx, hr]
    refine hK _ _ (h v' w' ?_ hu)
    unfold Ss
    rw [List.map_append, List.length_append]
    exact ho'

theorem Ss.upBelow {B : Nat} {w w' : World} {v v' : Value} {l : List ByteArray} (h : Up w v w' v') (hown : Ss B w v l) (hB : B ≤ w.heap.size) : Below B w w' :=
  (Below.refl B w).grown h.1 hB fun k hk => (World.ownsRow.lt hown k hk).1

end Go.Proofs.Ytacphlceggbfcaa.sRow
