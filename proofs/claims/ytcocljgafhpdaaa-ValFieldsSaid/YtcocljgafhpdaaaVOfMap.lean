/-
  val's OfMap: the fields sorted, of each name the last one, and these cloned.
-/
import Derived.Test.YtcocljgafhpdaaaVFClone
import Derived.Test.YtcocljgafhpdaaaVOfList
import Derived.ArgAppend
import Derived.Deep.QuietTactic
import Derived.BigQuiet
namespace Go.Proofs.Ytcocljgafhpdaaa
open Go.RowKit Go.Sort

theorem setCells_sets (g : Nat) : ∀ (cs : List Value) (w : World) (b : Nat), w.setCells g b cs = sets w g b cs
  | [], _, _ => rfl
  | _ :: cs, _, b => setCells_sets g cs _ (b + 1)

/-- one field appended where there is room -/
theorem wpList_app_keep (W : World) (H : Nat) (hH : W.heap.size = H) {ops : Array Oper} {rest : List Oper} {o : Oper} {a : Act} {Q : Exit → Act → World → Prop} (hgd : o.guard = none) (s x : Operand)
    (ho : o.op = .call { callee := .builtin .append, args := #[s, x], argTypes := #[22, 22] })
    (g k cap : Nat) (hs : a.eval s = .slice (some ⟨g, 0, none⟩) k cap) (arr : Array Value) (hB : Box W g 30 arr) (hsz : arr.size = cap * 7) (hk : k < cap) (f : FC)
    (cs : Array Value) (hcs : cs = f.enc.toArray) (c : Nat) (hx : a.eval x = .slice (some ⟨H, 0, none⟩) 1 c)
    (h : wpList Try.prog ops Q rest (a.put o.dst (.slice (some ⟨g, 0, none⟩) (k + 1) cap)) (sets (W.alloc (.cells cs 30)) g (k * 7) f.enc)) :
    wpList Try.prog ops Q (o :: rest) a (W.alloc (.cells cs 30)) := by
  subst hH hcs
  obtain ⟨i, hi, _, hi1, _⟩ := info_parts infoF
  have hB2 : Box (W.alloc (.cells f.enc.toArray 30)) g 30 arr := hB.alloc _
  have hN : Box (W.alloc (.cells f.enc.toArray 30)) W.heap.size 30 f.enc.toArray := Box.new W _ _
  have hroom : k * 7 + 7 ≤ arr.size := by omega
  refine wpList_plain hgd fun K hK => ?_
  have hr := run_append_room_cells (P := Try.prog) (W.alloc (.cells f.enc.toArray 30)) 22 o.type 30 i Try.underlying22 hi g 0 k cap ⟨W.heap.size, 0, none⟩ 1 c f.enc (by rw [hi1, FC.enc7])
    (fun j u hj => by
      have e1 : ((⟨W.heap.size, 0, none⟩ : Addr).add j) = ⟨W.heap.size, j, none⟩ := by unfold Addr.add; by_cases h0 : j = 0 <;> simp [h0]
      rw [e1, hN.cell]; simpa using hj)
    f.one (by omega)
    (fun j hj => by
      rw [FC.enc7] at hj
      rw [hi1, hB2.cell, Array.getElem?_eq_getElem (by omega)]; rfl)
    (fun j _ => hB2.free _)
  rw [hi1, Nat.zero_add, setCells_sets] at hr
  unfold Oper.wp execOp
  simp only [ho, resolve, invoke, builtin, Sem.run_bind, Sem.run_pure, Result.andThen_ok, List.map_toArray, List.map_cons, List.map_nil, hs, hx, hr]
  exact hK _ _ h

/-- of fields that stand by their names, those behind which stands none of the same name -/
def lastsTo (d : Array FC) : Nat → List FC
  | 0 => []
  | i + 1 => if h : i < d.size then (if i + 1 = d.size ∨ ∃ h2 : i + 1 < d.size, (d[i + 1]).nm ≠ (d[i]).nm then lastsTo d i ++ [d[i]] else lastsTo d i) else lastsTo d i

theorem lastsTo_length (d : Array FC) : ∀ i, (lastsTo d i).length ≤ i
  | 0 => Nat.le_refl _
  | i + 1 => by
    have := lastsTo_length d i
    rw [lastsTo]
    split
    · split
      · simp; omega
      · omega
    · omega

theorem lastsTo_mem (d : Array FC) : ∀ i, ∀ x ∈ lastsTo d i, x ∈ d
  | 0, x, h => by cases h
  | i + 1, x, h => by
    rw [lastsTo] at h
    split at h
    · rename_i hi
      split at h
      · rcases List.mem_append.1 h with h | h
        · exact lastsTo_mem d i x h
        · rw [List.mem_singleton.1 h]; exact Array.getElem_mem hi
      · exact lastsTo_mem d i x h
    · exact lastsTo_mem d i x h

/-- a row of fields in a block of its own, as a slice of fields -/
theorem row_fields {w : World} {S : Nat → Prop} {g cap : Nat} {arr : Array Value} {l : List FC} (hB : Box w g 30 arr) (hS : S g) (hc : l.length ≤ cap) (hc2 : cap ≤ maxLen) (hrow : ∀ i (h : i < l.length), ∀ q u, ((l[i]).enc)[q]? = some u → arr[i * 7 + q]? = some u)
    (hat : ∀ x ∈ l, x.v.At w S (.slice x.a x.v.list.length x.c) (.slice x.b x.v.fields.length x.d)) : FAt w S (l.map FC.fd) (.slice (some ⟨g, 0, none⟩) l.length cap) := by
  refine ⟨_, cap, by rw [List.length_map], by rw [List.length_map]; exact hc, hc2, .inr ⟨g, 0, rfl, hS, hB.lt, FCells.mk fun i hi => ?_⟩⟩
  have hi' : i < l.length := by simpa using hi
  refine ⟨.slice (l[i]).a (l[i]).v.list.length (l[i]).c, .slice (l[i]).b (l[i]).v.fields.length (l[i]).d, fun q u hq => ?_, ?_⟩
  · rw [Nat.zero_add, hB.cell]
    refine hrow i hi' q u ?_
    simpa [FC.fd, FC.enc, V.cells] using hq
  · simpa [FC.fd] using hat (l[i]) (List.getElem_mem hi')

end Go.Proofs.Ytcocljgafhpdaaa
