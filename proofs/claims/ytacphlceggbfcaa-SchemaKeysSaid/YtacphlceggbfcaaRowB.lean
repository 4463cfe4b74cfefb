/-
  Bytes that came in: appended to what the call owns, and as a text.
-/
import Derived.Test.YtacphlceggbfcaaOwn
import Derived.Test.YtacphlceggbfcaaIsRow
import Derived.Laws.AppendOwnNone
import Derived.Deep.QuietTactic
namespace Go.Proofs.Ytacphlceggbfcaa.rowB
open Go.RowKit

/-- bytes that came in, as a list -/
def bytesOf (zs : List Int) : List UInt8 := zs.map fun z => UInt8.ofNat z.toNat

theorem byteCells_of (zs : List Int) (h : ∀ z ∈ zs, 0 ≤ z ∧ z < 256) : Lib.byteCells (bytesOf zs) = zs.map (Value.int .u8) := by
  unfold Lib.byteCells bytesOf
  rw [List.map_map]
  refine List.map_congr_left fun z hz => ?_
  have := h z hz
  have e : z.toNat % 256 = z.toNat := by omega
  simp [e]
  omega

/-- 'append(v, b...)', b's cells known -/
theorem wpList_app_row {P : Program} (w : World) {ops : Array Oper} {rest : List Oper} {o : Oper} {a : Act} {Q : Exit → Act → World → Prop} (hgd : o.guard = none) (s x : Operand) (t : TypeId)
    (ho : o.op = .call { callee := .builtin .append, args := #[s, x], argTypes := #[t, t] })
    (E B : Nat) (ht : P.underlying t = some (.slice E)) (hi : (P.info? E).map (fun i => (i.zero, i.size, i.bytes)) = some (some (.int .u8 0), 1, 1))
    (v : Value) (l : List UInt8) (hs : a.eval s = v) (hown : Bs E B w v l) (ad : Addr) (zs : List Int) (c : Nat) (hz : ∀ z ∈ zs, 0 ≤ z ∧ z < 256)
    (hx : a.eval x = .slice (some ad) zs.length c) (hcell : ∀ i, i < zs.length → w.cell? (ad.add i) = some (.int .u8 (zs.getD i 0)))
    (h63 : l.length + zs.length ≤ 140737488355328) (hbase : B ≤ w.heap.size)
    (h : ∀ v' w', Bs E B w' v' (l ++ bytesOf zs) → Up w v w' v' → wpList P ops Q rest (a.put o.dst v') w') :
    wpList P ops Q (o :: rest) a w := by
  obtain ⟨i, hi, hz0, hi1, hi2⟩ := info_parts hi
  refine wpList_plain hgd fun K hK => ?_
  have hn : ∀ j u, (zs.map (Value.int .u8))[j]? = some u → w.cell? (ad.add j) = some u := by
    intro j u hj
    have hj' : j < zs.length := by
      have := (List.getElem?_eq_some_iff.1 hj).1
      simpa using this
    rw [hcell j hj']
    simp [List.getElem?_eq_getElem hj'] at hj
    rw [← hj]
    simp [List.getD, hj']
  obtain ⟨v', w', hr, ho', hu⟩ := run_app (P := P) w B t o.type E i (.int .u8 0) 1 1 ht hi hz0 hi1 hi2 rfl (by decide) v l.length (Lib.byteCells l) hown
    ad zs.length c (zs.map (Value.int .u8)) (by simp) hn (by intro u hu; simp at hu; obtain ⟨z, _, rfl⟩ := hu; rfl) (by unfold maxLen; omega) (by omega) hbase
  unfold Oper.wp execOp
  simp only [ho, resolve, invoke, builtin, Sem.run_bind, Sem.run_pure, Result.andThen_ok, List.map_toArray, List.map_cons, List.map_nil, hs, hx, hr]
  refine hK _ _ (h v' w' ?_ hu)
  unfold Bs
  rw [Lib.byteCells_append, List.length_append, byteCells_of zs hz]
  simpa [bytesOf] using ho'

theorem isRow_below {k : IntKind} {w W : World} {a : Option Addr} {len cap : Nat} {zs : List Int} (h : IsRow k w a len cap zs) (hB : Below w.heap.size w W) : IsRow k W a len cap zs := by
  rcases h with h | ⟨x, rfl, h1, h2, h3, h4, h5⟩
  · exact .inl h
  · exact .inr ⟨x, rfl, h1, h2, h3, fun i hi => (hB.cell (World.block_lt_of_cell? w _ (h4 i hi))).trans (h4 i hi), h5⟩

theorem bs_below {E B : Nat} {w W : World} {v : Value} {l : List UInt8} (h : Bs E B w v l) (hB : Below w.heap.size w W) : Bs E B W v l := by
  refine World.ownsRow.kept (row := none) h ⟨hB.os, hB.tape, hB.output, hB.size, fun k hk _ => hB.block k hk⟩ ?_
  by_cases hv : v.ownBlock = none
  · exact .inl hv
  · exact .inr hv

theorem u8_wf {z : Int} (h : (Lit.int .u8 z).wf = true) : 0 ≤ z ∧ z < 256 := by
  have h : 0 ≤ z ∧ z ≤ 255 := by simpa [Lit.wf, IntKind.min, IntKind.max, IntKind.signed, IntKind.bits] using h
  omega

/-- 'append(v, b...)', b whatever came in -/
theorem wpList_app_b {P : Program} (w : World) {ops : Array Oper} {rest : List Oper} {o : Oper} {a : Act} {Q : Exit → Act → World → Prop} (hgd : o.guard = none) (s x : Operand) (t : TypeId)
    (ho : o.op = .call { callee := .builtin .append, args := #[s, x], argTypes := #[t, t] })
    (E B : Nat) (ht : P.underlying t = some (.slice E)) (hi : (P.info? E).map (fun i => (i.zero, i.size, i.bytes)) = some (some (.int .u8 0), 1, 1))
    (v : Value) (l : List UInt8) (hs : a.eval s = v) (hown : Bs E B w v l) (ab : Option Addr) (len cap : Nat) (zs : List Int) (hrow : IsRow .u8 w ab len cap zs)
    (hx : a.eval x = .slice ab len cap) (h63 : l.length + len ≤ 140737488355328) (hbase : B ≤ w.heap.size)
    (h : ∀ v' w', Bs E B w' v' (l ++ bytesOf (zs.take len)) → Up w v w' v' → wpList P ops Q rest (a.put o.dst v') w') :
    wpList P ops Q (o :: rest) a w := by
  rcases hrow with ⟨rfl, rfl, rfl, rfl⟩ | ⟨ad, rfl, hle, _, hz, hc, hw⟩
  · obtain ⟨i, hi', _⟩ := info_parts hi
    exact wpList_append_own_none hgd s x t ho B E i 1 ht hi' v l.length (Lib.byteCells l) hs hown hx (h v w (by simpa [bytesOf] using hown) (Up.refl w v))
  · have hl : (zs.take len).length = len := by simp; omega
    refine wpList_app_row w hgd s x t ho E B ht hi v l hs hown ad (zs.take len) cap (fun z hz => u8_wf (hw z (List.mem_of_mem_take hz))) (by rw [hl]; exact hx) (fun i hi => ?_) (by rw [hl]; exact h63) hbase h
    have hi' : i < len := by omega
    rw [hc i (by omega)]
    simp [List.getD, hi']

theorem conv_b {P : Program} (w : World) (src dst e : TypeId) (hs : P.underlying src = some (.slice e)) (he : P.underlying e = some (.int .u8)) (hd : P.underlying dst = some .string) (ab : Option Addr) (len cap : Nat) (zs : List Int) (hrow : IsRow .u8 w ab len cap zs) :
    (convert src dst (.slice ab len cap)).run P w = .ok (.string ⟨(bytesOf (zs.take len)).toArray⟩) w := by
  rcases hrow with ⟨rfl, rfl, rfl, rfl⟩ | ⟨ad, rfl, hle, _, hz, hc, hw⟩
  · exact run_convert_bytes_nil (P := P) w src e hs he 0 0 dst hd
  · have hl : (bytesOf (zs.take len)).length = len := by simp [bytesOf]; omega
    have h := run_convert_bytes_back (P := P) w src dst e ad cap (bytesOf (zs.take len)) hs he hd fun j hj => by
      have hj' : j < len := by omega
      have hjz : j < zs.length := by omega
      have h1 := hc j hjz
      have h2 := u8_wf (hw zs[j] (List.getElem_mem _))
      rw [h1]
      have e1 : zs[j].toNat % 256 = zs[j].toNat := by omega
      simp [bytesOf, List.getD, hjz, e1]
      omega
    rw [hl] at h
    exact h

theorem below_drewN {B : Nat} {a w : World} (h : Below B a w) (n : Nat) : Below B a (w.drewN n) := ⟨h.os, h.tape, h.output, h.size, h.block⟩

/-- a call that leaves the world as it is, in a quiet region -/
theorem quiet_l {P : Program} {f : FuncId} {args : Array Value} {w : World} {n : Nat} {v : Value} (h : Calls P f args (w.drewN n) fun e w'' => e = .returned v ∧ w.drewN n = w'') :
    Calls P f args (w.drewN n) fun e w'' => e = .returned v ∧ ∃ m, w'' = w.drewN m := h.mono fun _ _ ⟨he, hm⟩ => ⟨he, n, hm.symm⟩

theorem bytesOf_length (zs : List Int) : (bytesOf zs).length = zs.length := by simp [bytesOf]

theorem len_of {k : IntKind} {w : World} {a : Option Addr} {len cap : Nat} {zs : List Int} (h : IsRow k w a len cap zs) : (zs.take len).length = len := by
  rcases h with ⟨_, h, _, h2⟩ | ⟨_, _, h1, _, h2, _⟩
  · simp [h]
  · simp; omega

end Go.Proofs.Ytacphlceggbfcaa.rowB
