/-
  Rows of texts (that came in, or that the call owns); bytes appended; bytes as a text: of no package of the program.
-/
import Derived.Test.YtcncoppnkodhmabProg
import Derived.WalkKit
import Derived.Test.YtcncoppnkodhmabOwn
import Derived.Test.YtcncoppnkodhmabIsRow
import Derived.Lib.Hide
import Derived.WalkLawsBesides
import Derived.WalkSpells
import Derived.Laws.AppendOwnNone
import Derived.Deep.QuietTactic
import Derived.SliceStrings
namespace Go.Proofs.Ytcncoppnkodhmab.tRow
open Go.ChangeShapes Go.WideShapes Go.ChangeAt Go.RowKit

theorem infoB : (Try.prog.info? 5).map (fun i => (i.zero, i.size, i.bytes)) = some (some (.int .u8 0), 1, 1) := by kernel_rfl

/-- 'string(v)' of what is owned. -/
theorem conv_bs {P : Program} (E B : Nat) (w : World) (src dst : TypeId) (hs : P.underlying src = some (.slice E)) (he : P.underlying E = some (.int .u8)) (hd : P.underlying dst = some .string) (v : Value) (l : List UInt8) (hown : Bs E B w v l) :
    (convert src dst v).run P w = .ok (.string ⟨l.toArray⟩) w := by
  rcases hown.2 with ⟨rfl, h0⟩ | ⟨g, cap, cur, rfl, _⟩
  · have : l = [] := List.eq_nil_of_length_eq_zero h0
    subst this
    exact run_convert_bytes_nil (P := P) w src E hs he 0 0 dst hd
  · exact run_convert_bytes_back (P := P) w src dst E _ cap l hs he hd fun j hj => World.ownsRow.cells hown (g := g) rfl j _ (by simp [Lib.byteCells, hj])

/-- A row of texts, wherever it lies. -/
def SRow (w : World) (A : Option Addr) (ps : List ByteArray) : Prop :=
  ps = [] ∨ ∃ b off, A = some ⟨b, off, none⟩ ∧ b < w.heap.size ∧ ∀ i (h : i < ps.length), w.cell? ⟨b, off + i, none⟩ = some (.string ps[i])

theorem SRow.below {w w' : World} {A : Option Addr} {ps : List ByteArray} (h : SRow w A ps) (hb : Below w.heap.size w w') : SRow w' A ps := by
  rcases h with h | ⟨b, off, e, hlt, hc⟩
  · exact .inl h
  · exact .inr ⟨b, off, e, Nat.lt_of_lt_of_le hlt hb.size, fun i hi => (hb.cell (p := ⟨b, off + i, none⟩) hlt).trans (hc i hi)⟩

/-- BYTES appended, as the walk meets it: the bytes lie in a new block of their own. -/
theorem wpList_appN {P : Program} (w : World) {ops : Array Oper} {rest : List Oper} {o : Oper} {a : Act} {Q : Exit → Act → World → Prop} (hgd : o.guard = none) (s x : Operand) (t : TypeId)
    (ho : o.op = .call { callee := .builtin .append, args := #[s, x], argTypes := #[t, t] })
    (E B : Nat) (ht : P.underlying t = some (.slice E)) (hi : (P.info? E).map (fun i => (i.zero, i.size, i.bytes)) = some (some (.int .u8 0), 1, 1))
    (v : Value) (l : List UInt8) (hs : a.eval s = v) (hown : Bs E B w v l) (news : List UInt8) (cs : Array Value) (hcs : cs = (Lib.byteCells news).toArray) (c : Nat)
    (hx : a.eval x = .slice (some ⟨w.heap.size, 0, none⟩) news.length c)
    (h63 : l.length + news.length < 140737488355328) (hbase : B ≤ w.heap.size)
    (h : ∀ v' w', Bs E B w' v' (l ++ news) → Up w v w' v' → wpList P ops Q rest (a.put o.dst v') w') :
    wpList P ops Q (o :: rest) a (w.alloc (.cells cs E)) := by
  subst hcs
  obtain ⟨i, hi, hz, hi1, hi2⟩ := info_parts hi
  have hn : ∀ j u, (Lib.byteCells news)[j]? = some u → (w.alloc (.cells (Lib.byteCells news).toArray E)).cell? ((⟨w.heap.size, 0, none⟩ : Addr).add j) = some u := by
    intro j u hj
    have e : ((⟨w.heap.size, 0, none⟩ : Addr).add j) = ⟨w.heap.size, j, none⟩ := by unfold Addr.add; by_cases h0 : j = 0 <;> simp [h0]
    rw [e, cell_of_row (w.alloc (.cells (Lib.byteCells news).toArray E)) w.heap.size j (Lib.byteCells news).toArray E (0, 0) (heap_alloc_new w _)]
    simpa using hj
  refine wpList_plain hgd fun K hK => ?_
  obtain ⟨v', w', hr, ho', hu⟩ := run_app (P := P) (w.alloc (.cells (Lib.byteCells news).toArray E)) B t o.type E i (.int .u8 0) 1 1 ht hi hz hi1 hi2 rfl (by decide) v l.length (Lib.byteCells l) (hown.alloc _)
    ⟨w.heap.size, 0, none⟩ news.length c (Lib.byteCells news) (by simp [Lib.byteCells]) hn (by intro u hu; simp [Lib.byteCells] at hu; obtain ⟨b, _, rfl⟩ := hu; rfl) (by unfold maxLen; omega) (by omega) (by simp; omega)
  unfold Oper.wp execOp
  simp only [ho, resolve, invoke, builtin, Sem.run_bind, Sem.run_pure, Result.andThen_ok, List.map_toArray, List.map_cons, List.map_nil, hs, hx, hr]
  refine hK _ _ (h v' w' ?_ hu.alloc)
  unfold Bs
  rw [Lib.byteCells_append, List.length_append]
  exact ho'

/-- ONE BYTE appended, inside a region that draws its order. -/
theorem oper_app1 {P : Program} (w : World) {o : Oper} {a : Act} {K : Act → World → Prop} {Q : Exit → Act → World → Prop} (s x : Operand) (t : TypeId)
    (ho : o.op = .call { callee := .builtin .append, args := #[s, x], argTypes := #[t, t] })
    (E B : Nat) (ht : P.underlying t = some (.slice E)) (hi : (P.info? E).map (fun i => (i.zero, i.size, i.bytes)) = some (some (.int .u8 0), 1, 1))
    (v : Value) (l : List UInt8) (hs : a.eval s = v) (hown : Bs E B w v l) (b : Int) (c : Nat)
    (hx : a.eval x = .slice (some ⟨w.heap.size, 0, none⟩) 1 c) (h0 : 0 ≤ b) (h1 : b < 256)
    (h63 : l.length < 140737488355328) (hbase : B ≤ w.heap.size)
    (h : ∀ v' w', Bs E B w' v' (l ++ [UInt8.ofNat b.toNat]) → Up w v w' v' → K (a.put o.dst v') w') :
    o.wp P a (w.alloc (.cells #[.int .u8 b] E)) K Q := by
  obtain ⟨i, hi, hz, hi1, hi2⟩ := info_parts hi
  have hn : ∀ j u, [Value.int .u8 b][j]? = some u → (w.alloc (.cells #[.int .u8 b] E)).cell? ((⟨w.heap.size, 0, none⟩ : Addr).add j) = some u := by
    intro j u hj
    match j, hj with
    | 0, hj => simp at hj; subst hj; simp [Addr.add]
  obtain ⟨v', w', hr, ho', hu⟩ := run_app (P := P) (w.alloc (.cells #[.int .u8 b] E)) B t o.type E i (.int .u8 0) 1 1 ht hi hz hi1 hi2 rfl (by decide) v l.length (Lib.byteCells l) (hown.alloc _)
    ⟨w.heap.size, 0, none⟩ 1 c [.int .u8 b] rfl hn (by intro u hu; simp at hu; subst hu; rfl) (by unfold maxLen; omega) (by omega) (by simp; omega)
  unfold Oper.wp execOp
  simp only [ho, resolve, invoke, builtin, Sem.run_bind, Sem.run_pure, Result.andThen_ok, List.map_toArray, List.map_cons, List.map_nil, hs, hx, hr]
  refine h v' w' ?_ hu.alloc
  have e : Lib.byteCells [UInt8.ofNat b.toNat] = [.int .u8 b] := by
    have : b.toNat % 256 = b.toNat := by omega
    simp [Lib.byteCells, this]; omega
  unfold Bs
  rw [Lib.byteCells_append, List.length_append, e]
  exact ho'

theorem isRow_below {k : IntKind} {w W : World} {a : Option Addr} {len cap : Nat} {zs : List Int} (h : IsRow k w a len cap zs) (hB : Below w.heap.size w W) : IsRow k W a len cap zs := by
  rcases h with h | ⟨x, rfl, h1, h2, h3, h4, h5⟩
  · exact .inl h
  · exact .inr ⟨x, rfl, h1, h2, h3, fun i hi => (hB.cell (World.block_lt_of_cell? w _ (h4 i hi))).trans (h4 i hi), h5⟩

theorem bs_below {E B : Nat} {w W : World} {v : Value} {l : List UInt8} (h : Bs E B w v l) (hB : Below w.heap.size w W) : Bs E B W v l := by
  refine World.ownsRow.kept (row := none) h ⟨hB.os, hB.tape, hB.output, hB.size, fun k hk _ => hB.block k hk⟩ ?_
  by_cases hv : v.ownBlock = none
  · exact .inl hv
  · exact .inr hv

/-- WHAT A WALK IS TOLD OF A SLICE OF TEXTS THAT CAME IN. -/
def Came (w : World) (a : Option Addr) (len cap : Nat) (ps : List ByteArray) : Prop :=
  SRow w a ps ∧ ps.length = len ∧ len ≤ cap ∧ cap ≤ maxLen ∧ (a = none → cap = 0) ∧ ∀ s ∈ ps, s.size ≤ maxLen

theorem came_of {H : Type} {enc : TypeId × Value → H} {W : World} {a : Option Addr} {len cap : Nat} {base : Nat} {sp : Bool} {d : DataW H} {pl : List MemPlace}
    (h : DataW.Trod enc Try.prog W base (fun _ => true) sp 33 (.slice a len cap) d pl) : ∃ ps, Came W a len cap ps := by
  obtain ⟨fuel, hf⟩ := h
  rcases open_strings Try.underlying33 Try.underlying9 (by kernel_rfl) hf with ⟨hcs, _⟩ | ⟨x, l, c, ss, hcs, _, hl, hmx, hz, _, hcell, hsz⟩
  · simp [Value.cells] at hcs
    obtain ⟨rfl, rfl, rfl⟩ := hcs
    exact ⟨[], .inl rfl, rfl, Nat.le_refl _, by unfold maxLen; omega, fun _ => rfl, fun s hs => by cases hs⟩
  · simp [Value.cells] at hcs
    obtain ⟨rfl, rfl, rfl⟩ := hcs
    have hz' : ss.length = cap := by simpa using hz
    refine ⟨ss.take len, ?_, by simp; omega, hl, hmx, fun h => (by cases h), fun s hs => hsz s (List.mem_of_mem_take hs)⟩
    by_cases h0 : len = 0
    · subst h0; exact .inl rfl
    · have hspot : x.spot = none := by
        have h1 := hcell 0 (by omega)
        simpa [Addr.add] using World.cell?_spot h1
      obtain ⟨b, off, spot⟩ := x
      have hspot : spot = none := hspot
      subst hspot
      have hat : ∀ i, (⟨b, off, none⟩ : Addr).add i = ⟨b, off + i, none⟩ := fun i => by
        unfold Addr.add
        by_cases h1 : i = 0 <;> simp [h1]
      refine .inr ⟨b, off, rfl, ?_, fun i hi => ?_⟩
      · have := World.block_lt_of_cell? W _ (hcell 0 (by omega))
        rwa [hat] at this
      · have hi' : i < len := by simp at hi; omega
        have h1 := hcell i (by omega)
        rw [hat] at h1
        rw [h1]
        simp [List.getD, show i < ss.length by omega]

theorem Came.below {w W : World} {a : Option Addr} {len cap : Nat} {ps : List ByteArray} (h : Came w a len cap ps) (hb : Below w.heap.size w W) : Came W a len cap ps := ⟨h.1.below hb, h.2⟩

/-- 'v' owns the texts 'ps', in a block from B on. -/
def Ss (B : Nat) (w : World) (v : Value) (ps : List ByteArray) : Prop := w.ownsRow B 9 1 v ps.length (ps.map Value.string)

theorem Ss.srow {B : Nat} {w : World} {a : Option Addr} {n c : Nat} {ps : List ByteArray} (h : Ss B w (.slice a n c) ps) : n = ps.length ∧ SRow w a ps := by
  rcases h.2 with ⟨hv, h0⟩ | ⟨g, cap, cur, hv, hB, hg, hle, hm, hcs, htk⟩
  · injection hv with h1 h2 h3
    exact ⟨by omega, .inl (List.eq_nil_of_length_eq_zero h0)⟩
  · have hcells := World.ownsRow.cells h (g := g) (by rw [hv]; rfl)
    have hlt := (World.ownsRow.lt h g (by rw [hv]; rfl)).2
    injection hv with h1 h2 h3
    refine ⟨h2, .inr ⟨g, 0, h1, hlt, fun i hi => ?_⟩⟩
    have h1 := hcells i (.string ps[i]) (by simp [hi])
    have e : (⟨g, 0, none⟩ : Addr).add i = ⟨g, 0 + i, none⟩ := by unfold Addr.add; by_cases h2 : i = 0 <;> simp [h2]
    rw [e] at h1
    exact h1

theorem Ss.form {B : Nat} {w : World} {v : Value} {ps : List ByteArray} (h : Ss B w v ps) : ∃ a c, v = .slice a ps.length c := by
  rcases h.2 with ⟨rfl, h0⟩ | ⟨g, cap, cur, rfl, _⟩
  · exact ⟨none, 0, by rw [h0]⟩
  · exact ⟨_, _, rfl⟩

theorem infoS : (Try.prog.info? 9).map (fun i => (i.zero, i.size, i.bytes)) = some (some (.string ⟨#[]⟩), 1, 16) := by kernel_rfl

theorem ss_empty (w : World) (B : Nat) (hB : B ≤ w.heap.size) : Ss B (w.alloc (.cells #[] 9)) (.slice (some ⟨w.heap.size, 0, none⟩) 0 0) [] :=
  World.ownsRow_made w #[] 0 hB (by decide) rfl

theorem ss_nil (w : World) (B : Nat) : Ss B w (.slice none 0 0) [] := World.ownsRow_nil w B 9 1

set_option maxRecDepth 100000 in
/-- texts appended -/
theorem wpList_app_s (w : World) {ops : Array Oper} {rest : List Oper} {o : Oper} {a : Act} {Q : Exit → Act → World → Prop} (hgd : o.guard = none) (s x : Operand)
    (ho : o.op = .call { callee := .builtin .append, args := #[s, x], argTypes := #[33, 33] })
    (B : Nat) (v : Value) (ps : List ByteArray) (hs : a.eval s = v) (hown : Ss B w v ps) (ab : Option Addr) (len cap : Nat) (qs : List ByteArray) (hrow : SRow w ab qs) (hlen : qs.length = len) (hnone : ab = none → cap = 0)
    (hx : a.eval x = .slice ab len cap) (h63 : ps.length + len ≤ 1000000) (hbase : B ≤ w.heap.size)
    (h : ∀ v' w', Ss B w' v' (ps ++ qs) → Up w v w' v' → wpList Try.prog ops Q rest (a.put o.dst v') w') :
    wpList Try.prog ops Q (o :: rest) a w := by
  obtain ⟨i, hi, hz0, hi1, hi2⟩ := info_parts infoS
  subst hlen
  match ab, hrow, hnone, hx with
  | none, hrow, hnone, hx =>
    obtain rfl := hnone rfl
    have hq : qs = [] := by
      rcases hrow with h | ⟨b, off, e, _⟩
      · exact h
      · cases e
    subst hq
    exact wpList_append_own_none hgd s x 33 ho B 9 i 1 Try.underlying33 hi v ps.length (ps.map Value.string) hs hown hx (h v w (by simpa using hown) (Up.refl w v))
  | some ad, hrow, _, hx =>
    refine wpList_plain hgd fun K hK => ?_
    have hn : ∀ j u, (qs.map Value.string)[j]? = some u → w.cell? (ad.add j) = some u := by
      intro j u hj
      rcases hrow with rfl | ⟨b, off, e, _, hc⟩
      · simp at hj
      · have hj' : j < qs.length := by
          have := (List.getElem?_eq_some_iff.1 hj).1
          simpa using this
        injection e with e
        subst e
        have e : (⟨b, off, none⟩ : Addr).add j = ⟨b, off + j, none⟩ := by unfold Addr.add; by_cases h2 : j = 0 <;> simp [h2]
        rw [e, hc j hj']
        simp [List.getElem?_eq_getElem hj'] at hj
        rw [← hj]
    obtain ⟨v', w', hr, ho', hu⟩ := run_app (P := Try.prog) w B 33 o.type 9 i (.string ⟨#[]⟩) 1 16 Try.underlying33 hi hz0 hi1 hi2 rfl (by decide) v ps.length (ps.map Value.string) hown
      ad qs.length cap (qs.map Value.string) (by simp) hn (by intro u hu; simp at hu; obtain ⟨z, _, rfl⟩ := hu; rfl) (by unfold maxLen; omega) (by omega) hbase
    unfold Oper.wp execOp
    simp only [ho, resolve, invoke, builtin, Sem.run_bind, Sem.run_pure, Result.andThen_ok, List.map_toArray, List.map_cons, List.map_nil, hs, hx, hr]
    refine hK _ _ (h v' w' ?_ hu)
    unfold Ss
    rw [List.map_append, List.length_append]
    exact ho'

theorem Ss.upBelow {B : Nat} {w w' : World} {v v' : Value} {l : List ByteArray} (h : Up w v w' v') (hown : Ss B w v l) (hB : B ≤ w.heap.size) : Below B w w' :=
  (Below.refl B w).grown h.1 hB fun k hk => (World.ownsRow.lt hown k hk).1

end Go.Proofs.Ytcncoppnkodhmab.tRow
