/-
  OctetLays: for every bytes and every list of parts the law's function returns true, and writes nothing that was there.
-/
import Derived.Test.YtecejmefnbejhaaPartsOpen
import Derived.Test.YtecejmefnbejhaaRound
import Derived.Test.YtecejmefnbejhaaMosts
import Derived.Test.YtecejmefnbejhaaCuts
import Derived.Test.YtecejmefnbejhaaApart
import Derived.Laws.AppendOwnNone
namespace Go.Proofs.Ytecejmefnbejhaa.octetLays
open Go.RowKit

/-- bytes that came in, as a list -/
def bytesOf (zs : List Int) : List UInt8 := zs.map fun z => UInt8.ofNat z.toNat

theorem byteCells_of (zs : List Int) (h : ∀ z ∈ zs, 0 ≤ z ∧ z < 256) : Lib.byteCells (bytesOf zs) = zs.map (Value.int .u8) := by
  unfold Lib.byteCells bytesOf
  rw [List.map_map]
  refine List.map_congr_left fun z hz => ?_
  have := h z hz
  have e : z.toNat % 256 = z.toNat := by omega
  simp [e]
  omega

/-- 'append(v, b...)', b's cells known -/
theorem wpList_app_row {P : Program} (w : World) {ops : Array Oper} {rest : List Oper} {o : Oper} {a : Act} {Q : Exit → Act → World → Prop} (hgd : o.guard = none) (s x : Operand) (t : TypeId)
    (ho : o.op = .call { callee := .builtin .append, args := #[s, x], argTypes := #[t, t] })
    (E B : Nat) (ht : P.underlying t = some (.slice E)) (hi : (P.info? E).map (fun i => (i.zero, i.size, i.bytes)) = some (some (.int .u8 0), 1, 1))
    (v : Value) (l : List UInt8) (hs : a.eval s = v) (hown : Bs E B w v l) (ad : Addr) (zs : List Int) (c : Nat) (hz : ∀ z ∈ zs, 0 ≤ z ∧ z < 256)
    (hx : a.eval x = .slice (some ad) zs.length c) (hcell : ∀ i, i < zs.length → w.cell? (ad.add i) = some (.int .u8 (zs.getD i 0)))
    (h63 : l.length + zs.length ≤ 140737488355328) (hbase : B ≤ w.heap.size)
    (h : ∀ v' w', Bs E B w' v' (l ++ bytesOf zs) → Up w v w' v' → wpList P ops Q rest (a.put o.dst v') w') :
    wpList P ops Q (o :: rest) a w := by
  obtain ⟨i, hi, hz0, hi1, hi2⟩ := info_parts hi
  refine wpList_plain hgd fun K hK => ?_
  have hn : ∀ j u, (zs.map (Value.int .u8))[j]? = some u → w.cell? (ad.add j) = some u := by
    intro j u hj
    have hj' : j < zs.length := by
      have := (List.getElem?_eq_some_iff.1 hj).1
      simpa using this
    rw [hcell j hj']
    simp [List.getElem?_eq_getElem hj'] at hj
    rw [← hj]
    simp [List.getD, hj']
  obtain ⟨v', w', hr, ho', hu⟩ := run_app (P := P) w B t o.type E i (.int .u8 0) 1 1 ht hi hz0 hi1 hi2 rfl (by decide) v l.length (Lib.byteCells l) hown
    ad zs.length c (zs.map (Value.int .u8)) (by simp) hn (by intro u hu; simp at hu; obtain ⟨z, _, rfl⟩ := hu; rfl) (by unfold maxLen; omega) (by omega) hbase
  unfold Oper.wp execOp
  simp only [ho, resolve, invoke, builtin, Sem.run_bind, Sem.run_pure, Result.andThen_ok, List.map_toArray, List.map_cons, List.map_nil, hs, hx, hr]
  refine hK _ _ (h v' w' ?_ hu)
  unfold Bs
  rw [Lib.byteCells_append, List.length_append, byteCells_of zs hz]
  simpa [bytesOf] using ho'

/-- 'x[n:]' of what is owned, and the text of it -/
theorem suffix_own (B : Nat) (w : World) (v : Value) (a l : List UInt8) (hown : Bs 5 B w v (a ++ l)) :
    ∃ v2, (∀ W, (Instr.slice 22 v (some (.int .i64 a.length)) none none).run Try.prog W = .ok v2 W) ∧ (convert 22 9 v2).run Try.prog w = .ok (.string ⟨l.toArray⟩) w := by
  have helem : Try.prog.elem 22 = 5 := by kernel_rfl
  have ht : Try.prog.underlying 22 = some (.slice (Try.prog.elem 22)) := by rw [helem]; exact Try.underlying22
  rcases hown.2 with ⟨rfl, h0⟩ | ⟨g, cap, cur, rfl, hB, hg, hle, hm, hcs, htk⟩
  · have ha : a = [] := List.eq_nil_of_length_eq_zero (by rw [List.length_append] at h0; omega)
    have hl : l = [] := List.eq_nil_of_length_eq_zero (by rw [List.length_append] at h0; omega)
    subst ha hl
    refine ⟨.slice none 0 0, fun W => ?_, conv_own (P := Try.prog) 5 B w 22 9 Try.underlying22 Try.underlying5 Try.underlying9 _ [] (Bs.nil _ _ _)⟩
    rw [show ((([] : List UInt8).length : Nat) : Int) = 0 from rfl, run_slice_l (P := Try.prog) W 22 none 0 0 ht .i64 0 (by decide) (by decide), helem, Try.sizeOf5]
    rfl
  · have hcells := World.ownsRow.cells hown (g := g) rfl
    refine ⟨sliced (some ⟨g, 0, none⟩) a.length (a ++ l).length cap 1, fun W => ?_, ?_⟩
    · rw [run_slice_l (P := Try.prog) W 22 _ _ _ ht .i64 _ (by omega) (by rw [List.length_append]; omega), helem, Try.sizeOf5]
      simp [Result.andThen]
    · by_cases hc : cap = a.length
      · have hl : l = [] := List.eq_nil_of_length_eq_zero (by rw [List.length_append] at hle; omega)
        subst hl
        have e : ∃ ad c, sliced (some ⟨g, 0, none⟩) a.length (a ++ []).length cap 1 = .slice (some ad) ([] : List UInt8).length c := by
          unfold sliced; simp [hc]
        obtain ⟨ad, c, e⟩ := e
        rw [e]
        exact run_convert_bytes_back (P := Try.prog) w 22 9 5 ad c [] Try.underlying22 Try.underlying5 Try.underlying9 (fun j hj => by simp at hj)
      · have e : sliced (some ⟨g, 0, none⟩) a.length (a ++ l).length cap 1 = .slice (some ⟨g, a.length, none⟩) l.length (cap - a.length) := by
          unfold sliced Addr.add
          by_cases h0 : a.length = 0
          · simp [h0]
          · simp [hc, h0]
        rw [e]
        refine run_convert_bytes_back (P := Try.prog) w 22 9 5 ⟨g, a.length, none⟩ _ l Try.underlying22 Try.underlying5 Try.underlying9 (fun j hj => ?_)
        have h1 := hcells (a.length + j) (.int .u8 (l[j].toNat : Int)) (by simp [Lib.byteCells, hj])
        have e1 : (⟨g, a.length, none⟩ : Addr).add j = (⟨g, 0, none⟩ : Addr).add (a.length + j) := by
          unfold Addr.add
          by_cases h2 : j = 0 <;> by_cases h3 : a.length + j = 0 <;> simp [h2, h3] <;> omega
        rw [e1]
        exact h1

theorem isRow_below {k : IntKind} {w W : World} {a : Option Addr} {len cap : Nat} {zs : List Int} (h : IsRow k w a len cap zs) (hB : Below w.heap.size w W) : IsRow k W a len cap zs := by
  rcases h with h | ⟨x, rfl, h1, h2, h3, h4, h5⟩
  · exact .inl h
  · exact .inr ⟨x, rfl, h1, h2, h3, fun i hi => (hB.cell (World.block_lt_of_cell? w _ (h4 i hi))).trans (h4 i hi), h5⟩

theorem partRow_below {w W : World} {a : Option Addr} {len : Nat} {ps : List Part} (h : PartRow w a len ps) (hB : Below w.heap.size w W) : PartRow W a len ps := by
  obtain ⟨h1, h2, h3⟩ := h
  refine ⟨h1, h2, ?_⟩
  rcases h3 with h3 | ⟨b, off, rfl, hb, hp⟩
  · exact .inl h3
  · refine .inr ⟨b, off, rfl, Nat.lt_of_lt_of_le hb hB.size, fun i hi => ?_⟩
    obtain ⟨⟨g0, g1, g2, g3⟩, gn⟩ := hp i hi
    exact ⟨⟨(hB.cell (by exact hb)).trans g0, (hB.cell (by exact hb)).trans g1, (hB.cell (by exact hb)).trans g2, (hB.cell (by exact hb)).trans g3⟩, gn⟩

theorem bs_below {E B : Nat} {w W : World} {v : Value} {l : List UInt8} (h : Bs E B w v l) (hB : Below w.heap.size w W) : Bs E B W v l := by
  refine World.ownsRow.kept (row := none) h ⟨hB.os, hB.tape, hB.output, hB.size, fun k hk _ => hB.block k hk⟩ ?_
  by_cases hv : v.ownBlock = none
  · exact .inl hv
  · exact .inr hv

theorem few_row (a : Option Addr) (len cap : Nat) (ps : List Part) (w : World) (h : PartRow w a len ps) :
    Calls Try.prog 11 #[.slice a len cap] w fun e w' => e = .returned (.bool (fewB ps)) ∧ Below w.heap.size w w' := by
  obtain ⟨rfl, h2, h3⟩ := h
  rcases h3 with h3 | ⟨b, off, rfl, hb, hp⟩
  · have e : ps = [] := List.eq_nil_of_length_eq_zero h3
    subst e
    exact few_empty a cap w
  · exact few_any b off ps cap w hb hp h2

theorem lay_row (a : Option Addr) (len cap : Nat) (ps : List Part) (w : World) (h : PartRow w a len ps) (h20 : len ≤ 20) (hlen : (layOf ps).length ≤ 1000000) :
    Calls Try.prog 15 #[.slice a len cap] w fun e w' => e = .returned (.string ⟨(layOf ps).toArray⟩) ∧ Below w.heap.size w w' := by
  obtain ⟨rfl, h2, h3⟩ := h
  rcases h3 with h3 | ⟨b, off, rfl, hb, hp⟩
  · have e : ps = [] := List.eq_nil_of_length_eq_zero h3
    subst e
    exact lay_empty a cap w
  · exact lay_any b off ps cap w hb hp hlen (by omega)

theorem u8_wf {z : Int} (h : (Lit.int .u8 z).wf = true) : 0 ≤ z ∧ z < 256 := by
  have h : 0 ≤ z ∧ z ≤ 255 := by simpa [Lit.wf, IntKind.min, IntKind.max, IntKind.signed, IntKind.bits] using h
  omega

/-- 'append(v, b...)', b whatever came in -/
theorem wpList_app_b {P : Program} (w : World) {ops : Array Oper} {rest : List Oper} {o : Oper} {a : Act} {Q : Exit → Act → World → Prop} (hgd : o.guard = none) (s x : Operand) (t : TypeId)
    (ho : o.op = .call { callee := .builtin .append, args := #[s, x], argTypes := #[t, t] })
    (E B : Nat) (ht : P.underlying t = some (.slice E)) (hi : (P.info? E).map (fun i => (i.zero, i.size, i.bytes)) = some (some (.int .u8 0), 1, 1))
    (v : Value) (l : List UInt8) (hs : a.eval s = v) (hown : Bs E B w v l) (ab : Option Addr) (len cap : Nat) (zs : List Int) (hrow : IsRow .u8 w ab len cap zs)
    (hx : a.eval x = .slice ab len cap) (h63 : l.length + len ≤ 140737488355328) (hbase : B ≤ w.heap.size)
    (h : ∀ v' w', Bs E B w' v' (l ++ bytesOf (zs.take len)) → Up w v w' v' → wpList P ops Q rest (a.put o.dst v') w') :
    wpList P ops Q (o :: rest) a w := by
  rcases hrow with ⟨rfl, rfl, rfl, rfl⟩ | ⟨ad, rfl, hle, _, hz, hc, hw⟩
  · obtain ⟨i, hi', _⟩ := info_parts hi
    exact wpList_append_own_none hgd s x t ho B E i 1 ht hi' v l.length (Lib.byteCells l) hs hown hx (h v w (by simpa [bytesOf] using hown) (Up.refl w v))
  · have hl : (zs.take len).length = len := by simp; omega
    refine wpList_app_row w hgd s x t ho E B ht hi v l hs hown ad (zs.take len) cap (fun z hz => u8_wf (hw z (List.mem_of_mem_take hz))) (by rw [hl]; exact hx) (fun i hi => ?_) (by rw [hl]; exact h63) hbase h
    have hi' : i < len := by omega
    rw [hc i (by omega)]
    simp [List.getD, hi']

theorem conv_b {P : Program} (w : World) (src dst e : TypeId) (hs : P.underlying src = some (.slice e)) (he : P.underlying e = some (.int .u8)) (hd : P.underlying dst = some .string) (ab : Option Addr) (len cap : Nat) (zs : List Int) (hrow : IsRow .u8 w ab len cap zs) :
    (convert src dst (.slice ab len cap)).run P w = .ok (.string ⟨(bytesOf (zs.take len)).toArray⟩) w := by
  rcases hrow with ⟨rfl, rfl, rfl, rfl⟩ | ⟨ad, rfl, hle, _, hz, hc, hw⟩
  · exact run_convert_bytes_nil (P := P) w src e hs he 0 0 dst hd
  · have hl : (bytesOf (zs.take len)).length = len := by simp [bytesOf]; omega
    have h := run_convert_bytes_back (P := P) w src dst e ad cap (bytesOf (zs.take len)) hs he hd fun j hj => by
      have hj' : j < len := by omega
      have hjz : j < zs.length := by omega
      have h1 := hc j hjz
      have h2 := u8_wf (hw zs[j] (List.getElem_mem _))
      rw [h1]
      have e1 : zs[j].toNat % 256 = zs[j].toNat := by omega
      simp [bytesOf, List.getD, hjz, e1]
      omega
    rw [hl] at h
    exact h

end Go.Proofs.Ytecejmefnbejhaa.octetLays
