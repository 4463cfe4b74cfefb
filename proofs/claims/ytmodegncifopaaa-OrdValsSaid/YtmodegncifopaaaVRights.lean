/-
  The law's Right: what it gives, plainly, and its contract at every value of few parts.
-/
import Derived.Test.YtmodegncifopaaaVLast
import Derived.Test.YtmodegncifopaaaValRow
import Derived.Test.YtmodegncifopaaaValFld
import Derived.Test.YtmodegncifopaaaVFew
import Derived.Test.YtmodegncifopaaaVClone
import Derived.Deep.RegionWith
import Derived.Outline
import Derived.Test.YtmodegncifopaaaVOfMap0

section
namespace Go.Proofs.Ytmodegncifopaaa

/-- the last value of a name -/
def lastV (fs : List Fd) (n : ByteArray) : Option V := ((fs.filter (fun p => decide (p.1 = n))).getLast?).map (·.2)

def riseFd (p q : Fd) : Prop := p.1.data.toList < q.1.data.toList

def IsKept (fs out : List Fd) : Prop := out.Pairwise riseFd ∧ ∀ n v, (n, v) ∈ out ↔ lastV fs n = some v

theorem rise_unique : ∀ (a b : List Fd), a.Pairwise riseFd → b.Pairwise riseFd → (∀ x, x ∈ a ↔ x ∈ b) → a = b
  | [], [], _, _, _ => rfl
  | [], y :: b, _, _, h => absurd ((h y).2 (by simp)) (by simp)
  | x :: a, [], _, _, h => absurd ((h x).1 (by simp)) (by simp)
  | x :: a, y :: b, ha, hb, h => by
    rw [List.pairwise_cons] at ha hb
    have hxy : x = y := by
      rcases List.mem_cons.1 ((h x).1 (by simp)) with e | e
      · exact e
      · rcases List.mem_cons.1 ((h y).2 (by simp)) with e2 | e2
        · exact e2.symm
        · exact absurd (List.lt_trans (hb.1 x e) (ha.1 y e2)) (lt_irr _)
    subst hxy
    rw [rise_unique a b ha.2 hb.2 fun z => ?_]
    constructor
    · intro hz
      rcases List.mem_cons.1 ((h z).1 (by simp [hz])) with e | e
      · subst e; exact absurd (ha.1 z hz) (lt_irr _)
      · exact e
    · intro hz
      rcases List.mem_cons.1 ((h z).2 (by simp [hz])) with e | e
      · subst e; exact absurd (hb.1 z hz) (lt_irr _)
      · exact e

theorem IsKept.one {fs a b : List Fd} (ha : IsKept fs a) (hb : IsKept fs b) : a = b :=
  rise_unique a b ha.1 hb.1 fun x => by
    obtain ⟨n, v⟩ := x
    rw [ha.2, hb.2]

theorem filter_fd (d : Array FC) (n : ByteArray) : ((d.map FC.fd).toList).filter (fun p => decide (p.1 = n)) = (d.toList.filter (byName n)).map FC.fd := by
  rw [Array.toList_map, List.filter_map]
  rfl

theorem lastV_of (d : Array FC) (n : ByteArray) : lastV ((d.map FC.fd).toList) n = ((d.toList.filter (byName n)).getLast?).map (·.v) := by
  unfold lastV
  rw [filter_fd, List.getLast?_map]
  cases (d.toList.filter (byName n)).getLast? <;> rfl

theorem kept_isKept (d : Array FC) : IsKept ((d.map FC.fd).toList) ((keptF d).map FC.fd) := by
  refine ⟨List.pairwise_map.2 (kept_rise d), fun n v => ?_⟩
  rw [lastV_of, List.mem_map]
  constructor
  · rintro ⟨x, hx, e⟩
    have e1 : x.nm = n := congrArg Prod.fst e
    have e2 : x.v = v := congrArg Prod.snd e
    rw [← e1, kept_last hx, ← e2]; rfl
  · intro h
    rw [Option.map_eq_some_iff] at h
    obtain ⟨x, hx, e⟩ := h
    have hm := List.mem_of_getLast? hx
    obtain ⟨hm1, hm2⟩ := List.mem_filter.1 hm
    have hn : x.nm = n := of_decide_eq_true hm2
    obtain ⟨y, hy, hyn⟩ := kept_has (Array.mem_toList_iff.1 hm1)
    have hl := kept_last hy
    rw [hyn, hn, hx] at hl
    obtain rfl := Option.some.inj hl
    exact ⟨x, hy, by rw [← hn, ← e]; rfl⟩

/-- a field into a row whose names rise, in place of the one that has its name -/
def insF (p : Fd) : List Fd → List Fd
  | [] => [p]
  | q :: l => if p.1 = q.1 then p :: l else if p.1.data.toList < q.1.data.toList then p :: q :: l else q :: insF p l

def keptL (fs : List Fd) : List Fd := fs.foldl (fun out p => insF p out) []

theorem insF_mem (p : Fd) : ∀ (l : List Fd) (x : Fd), x ∈ insF p l → x = p ∨ x ∈ l
  | [], x, h => by simp [insF] at h; exact .inl h
  | q :: l, x, h => by
    unfold insF at h
    split at h
    · rcases List.mem_cons.1 h with e | e
      · exact .inl e
      · exact .inr (by simp [e])
    · split at h
      · rcases List.mem_cons.1 h with e | e
        · exact .inl e
        · exact .inr e
      · rcases List.mem_cons.1 h with e | e
        · exact .inr (by simp [e])
        · rcases insF_mem p l x e with e | e
          · exact .inl e
          · exact .inr (by simp [e])

theorem insF_rise (p : Fd) : ∀ (l : List Fd), l.Pairwise riseFd → (insF p l).Pairwise riseFd
  | [], _ => by simp [insF]
  | q :: l, h => by
    rw [List.pairwise_cons] at h
    unfold insF
    split
    · rename_i e
      refine List.pairwise_cons.2 ⟨fun x hx => ?_, h.2⟩
      have := h.1 x hx
      unfold riseFd at this ⊢
      rwa [e]
    · split
      · rename_i hlt
        refine List.pairwise_cons.2 ⟨fun x hx => ?_, List.pairwise_cons.2 h⟩
        rcases List.mem_cons.1 hx with rfl | hx
        · exact hlt
        · exact List.lt_trans hlt (h.1 x hx)
      · rename_i hne hnl
        refine List.pairwise_cons.2 ⟨fun x hx => ?_, insF_rise p l h.2⟩
        rcases insF_mem p l x hx with rfl | hx
        · rcases lt_tri x.1.data.toList q.1.data.toList with g | g | g
          · exact absurd g hnl
          · exact absurd (ByteArray.ext (Array.toList_inj.1 g)) hne
          · exact g
        · exact h.1 x hx

theorem insF_iff (p : Fd) : ∀ (l : List Fd), l.Pairwise riseFd → ∀ x, x ∈ insF p l ↔ x = p ∨ (x ∈ l ∧ x.1 ≠ p.1)
  | [], _, x => by simp [insF]
  | q :: l, h, x => by
    rw [List.pairwise_cons] at h
    unfold insF
    split
    · rename_i e
      rw [List.mem_cons, List.mem_cons]
      constructor
      · rintro (h1 | h1)
        · exact .inl h1
        · refine .inr ⟨.inr h1, fun e2 => ?_⟩
          have := h.1 x h1
          unfold riseFd at this
          rw [e2, e] at this
          exact lt_irr _ this
      · rintro (h1 | ⟨h1 | h1, h2⟩)
        · exact .inl h1
        · subst h1; exact absurd e.symm h2
        · exact .inr h1
    · split
      · rename_i hne hlt
        rw [List.mem_cons]
        constructor
        · rintro (h1 | h1)
          · exact .inl h1
          · refine .inr ⟨h1, fun e2 => ?_⟩
            rcases List.mem_cons.1 h1 with rfl | h1
            · exact hne e2.symm
            · have := List.lt_trans hlt (h.1 x h1)
              rw [e2] at this
              exact lt_irr _ this
        · rintro (h1 | ⟨h1, _⟩)
          · exact .inl h1
          · exact .inr h1
      · rename_i hne hnl
        rw [List.mem_cons, List.mem_cons, insF_iff p l h.2 x]
        constructor
        · rintro (h1 | h1 | ⟨h1, h2⟩)
          · subst h1; exact .inr ⟨.inl rfl, fun e => hne e.symm⟩
          · exact .inl h1
          · exact .inr ⟨.inr h1, h2⟩
        · rintro (h1 | ⟨h1 | h1, h2⟩)
          · exact .inr (.inl h1)
          · exact .inl h1
          · exact .inr (.inr ⟨h1, h2⟩)

theorem keptL_append (fs : List Fd) (p : Fd) : keptL (fs ++ [p]) = insF p (keptL fs) := by unfold keptL; rw [List.foldl_append]; rfl

theorem lastV_append (fs : List Fd) (p : Fd) (n : ByteArray) : lastV (fs ++ [p]) n = if p.1 = n then some p.2 else lastV fs n := by
  unfold lastV
  rw [List.filter_append]
  by_cases h : p.1 = n
  · rw [if_pos h]; simp [h]
  · rw [if_neg h]; simp [h]

theorem keptL_isKept' : ∀ (k : Nat) (fs : List Fd), fs.length = k → IsKept fs (keptL fs)
  | 0, fs, h => by
    obtain rfl := List.eq_nil_of_length_eq_zero h
    exact ⟨List.Pairwise.nil, fun n v => by simp [keptL, lastV]⟩
  | k + 1, fs, h => by
    have hne : fs ≠ [] := by intro e; rw [e] at h; cases h
    have e := List.dropLast_concat_getLast hne
    have ih := keptL_isKept' k fs.dropLast (by simp [h])
    generalize fs.dropLast = a at e ih
    generalize fs.getLast hne = p at e
    subst e
    rw [keptL_append]
    refine ⟨insF_rise p _ ih.1, fun n v => ?_⟩
    rw [insF_iff p _ ih.1, lastV_append]
    by_cases hp : p.1 = n
    · rw [if_pos hp]
      constructor
      · rintro (h1 | ⟨_, h2⟩)
        · rw [← h1]
        · exact absurd hp.symm h2
      · intro h1
        refine .inl ?_
        rw [← hp, ← Option.some.inj h1]
    · rw [if_neg hp, ← ih.2]
      constructor
      · rintro (h1 | ⟨h1, _⟩)
        · exact absurd (congrArg Prod.fst h1).symm hp
        · exact h1
      · intro h1
        exact .inr ⟨h1, fun e => hp e.symm⟩

theorem keptL_isKept (fs : List Fd) : IsKept fs (keptL fs) := keptL_isKept' _ fs rfl

theorem kept_is (d : Array FC) : (keptF d).map FC.fd = keptL ((d.map FC.fd).toList) := (kept_isKept d).one (keptL_isKept _)

def rvK (k : Nat) (y : Bool) (n : Int) (t : ByteArray) (l : List V) (f : List Fd) : V :=
  if k = 1 then V.ofBool y else if k = 2 then V.ofInt n else if k = 3 then V.ofText t else if k = 4 then V.ofList l else if k = 5 then V.ofMap (keptL f) else V.null

mutual
/-- what the law's Right makes of a value -/
def V.rv : V → V
  | .mk k y n t l f => rvK ((k % 18446744073709551616).toNat % 6) y n t (rvL l) (rvF f)
def rvL : List V → List V
  | [] => []
  | v :: l => v.rv :: rvL l
def rvF : List (ByteArray × V) → List (ByteArray × V)
  | [] => []
  | p :: l => (p.1, V.rv p.2) :: rvF l
end

theorem rvL_map : ∀ l : List V, rvL l = l.map V.rv
  | [] => rfl
  | v :: l => by rw [rvL, rvL_map l]; rfl
theorem rvF_map : ∀ l : List Fd, rvF l = l.map fun p => (p.1, V.rv p.2)
  | [] => rfl
  | p :: l => by rw [rvF, rvF_map l]; rfl

end Go.Proofs.Ytmodegncifopaaa
end

section
namespace Go.Proofs.Ytmodegncifopaaa
open Go.RowKit

theorem oper_app_v (W : World) (H : Nat) (hH : W.heap.size = H) {o : Oper} {a : Act} {K : Act → World → Prop} {Q : Exit → Act → World → Prop} (s x : Operand)
    (ho : o.op = .call { callee := .builtin .append, args := #[s, x], argTypes := #[23, 23] })
    (B : Nat) (vv : Value) (vs : List V) (hs : a.eval s = vv) (hrow : VRow W B vv vs) (v : V) (lv fv : Value) (hlv : ∃ a c, lv = .slice a v.list.length c) (hfv : ∃ a c, fv = .slice a v.fields.length c) (hat : v.At W (fun x => B ≤ x ∧ vv.ownBlock ≠ some x) lv fv)
    (cs : Array Value) (hcs : cs = (v.cells lv fv).toArray) (c : Nat) (hx : a.eval x = .slice (some ⟨H, 0, none⟩) 1 c) (h63 : vs.length ≤ 1000000) (hbase : B ≤ W.heap.size)
    (h : ∀ vv' w', VRow w' B vv' (vs ++ [v]) → Up W vv w' vv' → K (a.put o.dst vv') w') :
    o.wp Try.prog a (W.alloc (.cells cs 26)) K Q := by
  subst hH hcs
  obtain ⟨i, hi, hz, hi1, hi2⟩ := info_parts infoV
  obtain ⟨old, hown, hold⟩ := hrow
  have hlen : (v.cells lv fv).length = 6 := rfl
  have hcl := hown.1
  have hn : ∀ j u, (v.cells lv fv)[j]? = some u → (W.alloc (.cells (v.cells lv fv).toArray 26)).cell? ((⟨W.heap.size, 0, none⟩ : Addr).add j) = some u := by
    intro j u hj
    have e : ((⟨W.heap.size, 0, none⟩ : Addr).add j) = ⟨W.heap.size, j, none⟩ := by unfold Addr.add; by_cases h0 : j = 0 <;> simp [h0]
    rw [e, cell_of_row (W.alloc (.cells (v.cells lv fv).toArray 26)) W.heap.size j (v.cells lv fv).toArray 26 (0, 0) (heap_alloc_new W _)]
    simpa using hj
  obtain ⟨al, cl, rfl⟩ := hlv
  obtain ⟨af, cf, rfl⟩ := hfv
  obtain ⟨v', w', hr, ho', hu⟩ := run_app (P := Try.prog) (W.alloc (.cells (v.cells _ _).toArray 26)) B 23 o.type 26 i _ 6 88 Try.underlying23 hi hz hi1 hi2 rfl (by decide) vv vs.length old (hown.alloc _)
    ⟨W.heap.size, 0, none⟩ 1 c (v.cells _ _) hlen hn (by intro u hu; simp [V.cells] at hu; rcases hu with rfl | rfl | rfl | rfl | rfl | rfl <;> rfl) (by unfold maxLen; omega) (by omega) (by simp; omega)
  unfold Oper.wp execOp
  simp only [ho, resolve, invoke, builtin, Sem.run_bind, Sem.run_pure, Result.andThen_ok, List.map_toArray, List.map_cons, List.map_nil, hs, hx, hr]
  have hu' := hu.alloc
  have hgr := hu'.1
  have hne : ∀ b, b < W.heap.size → vv.ownBlock ≠ some b → v'.ownBlock ≠ some b := fun b hb hnb e => by
    rcases hu'.2 with e2 | e2
    · rw [e2] at e; exact hnb e
    · have := e2 b e; omega
  refine (h v' w' ⟨old ++ v.cells _ _, by rw [List.length_append]; exact ho', fun j hj => ?_⟩ hu')
  by_cases hjl : j < vs.length
  · obtain ⟨l1, f1, g1, g2⟩ := hold j hjl
    refine ⟨l1, f1, fun q u hq => ?_, ?_⟩
    · rw [List.getElem_append_left hjl] at hq
      have h1 := g1 q u hq
      rw [List.getElem?_append_left (List.getElem?_eq_some_iff.1 h1).1]
      exact h1
    · rw [List.getElem_append_left hjl]
      exact V.At.move (fun b hS hlt => ⟨⟨hS.1, hne b hlt hS.2⟩, hgr.block b hlt (fun e => hS.2 e.symm)⟩) hgr.size _ (Nat.le_refl _) g2
  · obtain rfl : j = vs.length := by simp at hj; omega
    refine ⟨.slice al v.list.length cl, .slice af v.fields.length cf, fun q u hq => ?_, ?_⟩
    · rw [List.getElem_append_right (Nat.le_refl _)] at hq
      rw [List.getElem?_append_right (by rw [hcl]; omega), hcl]
      simp only [Nat.sub_self, List.getElem_cons_zero] at hq
      rw [show vs.length * 6 + q - vs.length * 6 = q by omega]
      exact hq
    · rw [List.getElem_append_right (Nat.le_refl _)]
      simp only [Nat.sub_self, List.getElem_cons_zero]
      exact V.At.move (fun b hS hlt => ⟨⟨hS.1, hne b hlt hS.2⟩, hgr.block b hlt (fun e => hS.2 e.symm)⟩) hgr.size _ (Nat.le_refl _) hat


theorem oper_app_f (W : World) (H : Nat) (hH : W.heap.size = H) {o : Oper} {a : Act} {K : Act → World → Prop} {Q : Exit → Act → World → Prop} (s x : Operand)
    (ho : o.op = .call { callee := .builtin .append, args := #[s, x], argTypes := #[24, 24] })
    (B : Nat) (vv : Value) (vs : List Fd) (hs : a.eval s = vv) (hrow : FRow W B vv vs) (v : Fd) (lv fv : Value) (hlv : ∃ a c, lv = .slice a v.2.list.length c) (hfv : ∃ a c, fv = .slice a v.2.fields.length c) (hat : v.2.At W (fun x => B ≤ x ∧ vv.ownBlock ≠ some x) lv fv)
    (cs : Array Value) (hcs : cs = (fcells v lv fv).toArray) (c : Nat) (hx : a.eval x = .slice (some ⟨H, 0, none⟩) 1 c) (h63 : vs.length ≤ 1000000) (hbase : B ≤ W.heap.size)
    (h : ∀ vv' w', FRow w' B vv' (vs ++ [v]) → Up W vv w' vv' → K (a.put o.dst vv') w') :
    o.wp Try.prog a (W.alloc (.cells cs 43)) K Q := by
  subst hH hcs
  obtain ⟨i, hi, hz, hi1, hi2⟩ := info_parts infoF
  obtain ⟨old, hown, hold⟩ := hrow
  have hlen : (fcells v lv fv).length = 7 := rfl
  have hcl := hown.1
  have hn : ∀ j u, (fcells v lv fv)[j]? = some u → (W.alloc (.cells (fcells v lv fv).toArray 43)).cell? ((⟨W.heap.size, 0, none⟩ : Addr).add j) = some u := by
    intro j u hj
    have e : ((⟨W.heap.size, 0, none⟩ : Addr).add j) = ⟨W.heap.size, j, none⟩ := by unfold Addr.add; by_cases h0 : j = 0 <;> simp [h0]
    rw [e, cell_of_row (W.alloc (.cells (fcells v lv fv).toArray 43)) W.heap.size j (fcells v lv fv).toArray 43 (0, 0) (heap_alloc_new W _)]
    simpa using hj
  obtain ⟨al, cl, rfl⟩ := hlv
  obtain ⟨af, cf, rfl⟩ := hfv
  obtain ⟨v', w', hr, ho', hu⟩ := run_app (P := Try.prog) (W.alloc (.cells (fcells v _ _).toArray 43)) B 24 o.type 43 i _ 7 104 Try.underlying24 hi hz hi1 hi2 rfl (by decide) vv vs.length old (hown.alloc _)
    ⟨W.heap.size, 0, none⟩ 1 c (fcells v _ _) hlen hn (by intro u hu; simp [fcells, V.cells] at hu; rcases hu with rfl | rfl | rfl | rfl | rfl | rfl | rfl <;> rfl) (by unfold maxLen; omega) (by omega) (by simp; omega)
  unfold Oper.wp execOp
  simp only [ho, resolve, invoke, builtin, Sem.run_bind, Sem.run_pure, Result.andThen_ok, List.map_toArray, List.map_cons, List.map_nil, hs, hx, hr]
  have hu' := hu.alloc
  have hgr := hu'.1
  have hne : ∀ b, b < W.heap.size → vv.ownBlock ≠ some b → v'.ownBlock ≠ some b := fun b hb hnb e => by
    rcases hu'.2 with e2 | e2
    · rw [e2] at e; exact hnb e
    · have := e2 b e; omega
  refine (h v' w' ⟨old ++ fcells v _ _, by rw [List.length_append]; exact ho', fun j hj => ?_⟩ hu')
  by_cases hjl : j < vs.length
  · obtain ⟨l1, f1, g1, g2⟩ := hold j hjl
    refine ⟨l1, f1, fun q u hq => ?_, ?_⟩
    · rw [List.getElem_append_left hjl] at hq
      have h1 := g1 q u hq
      rw [List.getElem?_append_left (List.getElem?_eq_some_iff.1 h1).1]
      exact h1
    · rw [List.getElem_append_left hjl]
      exact V.At.move (fun b hS hlt => ⟨⟨hS.1, hne b hlt hS.2⟩, hgr.block b hlt (fun e => hS.2 e.symm)⟩) hgr.size _ (Nat.le_refl _) g2
  · obtain rfl : j = vs.length := by simp at hj; omega
    refine ⟨.slice al v.2.list.length cl, .slice af v.2.fields.length cf, fun q u hq => ?_, ?_⟩
    · rw [List.getElem_append_right (Nat.le_refl _)] at hq
      rw [List.getElem?_append_right (by rw [hcl]; omega), hcl]
      simp only [Nat.sub_self, List.getElem_cons_zero] at hq
      rw [show vs.length * 7 + q - vs.length * 7 = q by omega]
      exact hq
    · rw [List.getElem_append_right (Nat.le_refl _)]
      simp only [Nat.sub_self, List.getElem_cons_zero]
      exact V.At.move (fun b hS hlt => ⟨⟨hS.1, hne b hlt hS.2⟩, hgr.block b hlt (fun e => hS.2 e.symm)⟩) hgr.size _ (Nat.le_refl _) hat


theorem run_app_v (W : World) (B : Nat) (vv : Value) (vs : List V) (hrow : VRow W B vv vs) (v : V) (lv fv : Value) (hlv : ∃ a c, lv = .slice a v.list.length c) (hfv : ∃ a c, fv = .slice a v.fields.length c) (hat : v.At W (fun x => B ≤ x ∧ vv.ownBlock ≠ some x) lv fv)
    (c : Nat) (h63 : vs.length ≤ 1000000) (hbase : B ≤ W.heap.size) :
    ∃ vv' w', (Builtin.append_ #[23, 23] 23 #[vv, .slice (some ⟨W.heap.size, 0, none⟩) 1 c]).run Try.prog (W.alloc (.cells (v.cells lv fv).toArray 26)) = .ok vv' w' ∧ VRow w' B vv' (vs ++ [v]) ∧ Up W vv w' vv' := by
  obtain ⟨i, hi, hz, hi1, hi2⟩ := info_parts infoV
  obtain ⟨old, hown, hold⟩ := hrow
  have hlen : (v.cells lv fv).length = 6 := rfl
  have hcl := hown.1
  have hn : ∀ j u, (v.cells lv fv)[j]? = some u → (W.alloc (.cells (v.cells lv fv).toArray 26)).cell? ((⟨W.heap.size, 0, none⟩ : Addr).add j) = some u := by
    intro j u hj
    have e : ((⟨W.heap.size, 0, none⟩ : Addr).add j) = ⟨W.heap.size, j, none⟩ := by unfold Addr.add; by_cases h0 : j = 0 <;> simp [h0]
    rw [e, cell_of_row (W.alloc (.cells (v.cells lv fv).toArray 26)) W.heap.size j (v.cells lv fv).toArray 26 (0, 0) (heap_alloc_new W _)]
    simpa using hj
  obtain ⟨al, cl, rfl⟩ := hlv
  obtain ⟨af, cf, rfl⟩ := hfv
  obtain ⟨v', w', hr, ho', hu⟩ := run_app (P := Try.prog) (W.alloc (.cells (v.cells _ _).toArray 26)) B 23 23 26 i _ 6 88 Try.underlying23 hi hz hi1 hi2 rfl (by decide) vv vs.length old (hown.alloc _)
    ⟨W.heap.size, 0, none⟩ 1 c (v.cells _ _) hlen hn (by intro u hu; simp [V.cells] at hu; rcases hu with rfl | rfl | rfl | rfl | rfl | rfl <;> rfl) (by unfold maxLen; omega) (by omega) (by simp; omega)
  have hu' := hu.alloc
  have hgr := hu'.1
  have hne : ∀ b, b < W.heap.size → vv.ownBlock ≠ some b → v'.ownBlock ≠ some b := fun b hb hnb e => by
    rcases hu'.2 with e2 | e2
    · rw [e2] at e; exact hnb e
    · have := e2 b e; omega
  refine ⟨v', w', hr, ⟨old ++ v.cells _ _, by rw [List.length_append]; exact ho', fun j hj => ?_⟩, hu'⟩
  by_cases hjl : j < vs.length
  · obtain ⟨l1, f1, g1, g2⟩ := hold j hjl
    refine ⟨l1, f1, fun q u hq => ?_, ?_⟩
    · rw [List.getElem_append_left hjl] at hq
      have h1 := g1 q u hq
      rw [List.getElem?_append_left (List.getElem?_eq_some_iff.1 h1).1]
      exact h1
    · rw [List.getElem_append_left hjl]
      exact V.At.move (fun b hS hlt => ⟨⟨hS.1, hne b hlt hS.2⟩, hgr.block b hlt (fun e => hS.2 e.symm)⟩) hgr.size _ (Nat.le_refl _) g2
  · obtain rfl : j = vs.length := by simp at hj; omega
    refine ⟨.slice al v.list.length cl, .slice af v.fields.length cf, fun q u hq => ?_, ?_⟩
    · rw [List.getElem_append_right (Nat.le_refl _)] at hq
      rw [List.getElem?_append_right (by rw [hcl]; omega), hcl]
      simp only [Nat.sub_self, List.getElem_cons_zero] at hq
      rw [show vs.length * 6 + q - vs.length * 6 = q by omega]
      exact hq
    · rw [List.getElem_append_right (Nat.le_refl _)]
      simp only [Nat.sub_self, List.getElem_cons_zero]
      exact V.At.move (fun b hS hlt => ⟨⟨hS.1, hne b hlt hS.2⟩, hgr.block b hlt (fun e => hS.2 e.symm)⟩) hgr.size _ (Nat.le_refl _) hat


theorem run_app_f (W : World) (B : Nat) (vv : Value) (vs : List Fd) (hrow : FRow W B vv vs) (v : Fd) (lv fv : Value) (hlv : ∃ a c, lv = .slice a v.2.list.length c) (hfv : ∃ a c, fv = .slice a v.2.fields.length c) (hat : v.2.At W (fun x => B ≤ x ∧ vv.ownBlock ≠ some x) lv fv)
    (c : Nat) (h63 : vs.length ≤ 1000000) (hbase : B ≤ W.heap.size) :
    ∃ vv' w', (Builtin.append_ #[24, 24] 24 #[vv, .slice (some ⟨W.heap.size, 0, none⟩) 1 c]).run Try.prog (W.alloc (.cells (fcells v lv fv).toArray 43)) = .ok vv' w' ∧ FRow w' B vv' (vs ++ [v]) ∧ Up W vv w' vv' := by
  obtain ⟨i, hi, hz, hi1, hi2⟩ := info_parts infoF
  obtain ⟨old, hown, hold⟩ := hrow
  have hlen : (fcells v lv fv).length = 7 := rfl
  have hcl := hown.1
  have hn : ∀ j u, (fcells v lv fv)[j]? = some u → (W.alloc (.cells (fcells v lv fv).toArray 43)).cell? ((⟨W.heap.size, 0, none⟩ : Addr).add j) = some u := by
    intro j u hj
    have e : ((⟨W.heap.size, 0, none⟩ : Addr).add j) = ⟨W.heap.size, j, none⟩ := by unfold Addr.add; by_cases h0 : j = 0 <;> simp [h0]
    rw [e, cell_of_row (W.alloc (.cells (fcells v lv fv).toArray 43)) W.heap.size j (fcells v lv fv).toArray 43 (0, 0) (heap_alloc_new W _)]
    simpa using hj
  obtain ⟨al, cl, rfl⟩ := hlv
  obtain ⟨af, cf, rfl⟩ := hfv
  obtain ⟨v', w', hr, ho', hu⟩ := run_app (P := Try.prog) (W.alloc (.cells (fcells v _ _).toArray 43)) B 24 24 43 i _ 7 104 Try.underlying24 hi hz hi1 hi2 rfl (by decide) vv vs.length old (hown.alloc _)
    ⟨W.heap.size, 0, none⟩ 1 c (fcells v _ _) hlen hn (by intro u hu; simp [fcells, V.cells] at hu; rcases hu with rfl | rfl | rfl | rfl | rfl | rfl | rfl <;> rfl) (by unfold maxLen; omega) (by omega) (by simp; omega)
  have hu' := hu.alloc
  have hgr := hu'.1
  have hne : ∀ b, b < W.heap.size → vv.ownBlock ≠ some b → v'.ownBlock ≠ some b := fun b hb hnb e => by
    rcases hu'.2 with e2 | e2
    · rw [e2] at e; exact hnb e
    · have := e2 b e; omega
  refine ⟨v', w', hr, ⟨old ++ fcells v _ _, by rw [List.length_append]; exact ho', fun j hj => ?_⟩, hu'⟩
  by_cases hjl : j < vs.length
  · obtain ⟨l1, f1, g1, g2⟩ := hold j hjl
    refine ⟨l1, f1, fun q u hq => ?_, ?_⟩
    · rw [List.getElem_append_left hjl] at hq
      have h1 := g1 q u hq
      rw [List.getElem?_append_left (List.getElem?_eq_some_iff.1 h1).1]
      exact h1
    · rw [List.getElem_append_left hjl]
      exact V.At.move (fun b hS hlt => ⟨⟨hS.1, hne b hlt hS.2⟩, hgr.block b hlt (fun e => hS.2 e.symm)⟩) hgr.size _ (Nat.le_refl _) g2
  · obtain rfl : j = vs.length := by simp at hj; omega
    refine ⟨.slice al v.2.list.length cl, .slice af v.2.fields.length cf, fun q u hq => ?_, ?_⟩
    · rw [List.getElem_append_right (Nat.le_refl _)] at hq
      rw [List.getElem?_append_right (by rw [hcl]; omega), hcl]
      simp only [Nat.sub_self, List.getElem_cons_zero] at hq
      rw [show vs.length * 7 + q - vs.length * 7 = q by omega]
      exact hq
    · rw [List.getElem_append_right (Nat.le_refl _)]
      simp only [Nat.sub_self, List.getElem_cons_zero]
      exact V.At.move (fun b hS hlt => ⟨⟨hS.1, hne b hlt hS.2⟩, hgr.block b hlt (fun e => hS.2 e.symm)⟩) hgr.size _ (Nat.le_refl _) hat


end Go.Proofs.Ytmodegncifopaaa
end

section
namespace Go.Proofs.Ytmodegncifopaaa
open Go.RowKit

/-- what Right answers: the value, read from new blocks -/
def RvP (v : V) (w : World) (e : Ending) (w' : World) : Prop :=
  ∃ lv fv, e = .returned (.agg #[.int .i64 v.kind, .bool v.yes, .int .i64 v.num, .string v.text, lv, fv]) ∧ v.At w' (fun q => w.heap.size ≤ q) lv fv ∧ Below w.heap.size w w'

theorem none_here {w : World} {S : Nat → Prop} (k : Int) (y : Bool) (n : Int) (t : ByteArray) : (V.mk k y n t [] []).At w S (.slice none 0 0) (.slice none 0 0) :=
  V.at_iff.2 ⟨⟨none, 0, rfl, Nat.le_refl _, by unfold maxLen; omega, .inl rfl⟩, ⟨none, 0, rfl, Nat.le_refl _, by unfold maxLen; omega, .inl rfl⟩⟩

theorem kind_mod (k : Int) (m : Nat) (h : (k % 18446744073709551616) % 6 = (m : Int)) : (IntKind.u64.wrap k).tmod 6 = (m : Int) := by
  have e : IntKind.u64.wrap k = k % 18446744073709551616 := by simp [IntKind.wrap, IntKind.bits, IntKind.signed]
  rw [e, Int.tmod_eq_emod_of_nonneg (by omega), h]

theorem kind6 (k : Int) : ∃ m : Nat, m < 6 ∧ (k % 18446744073709551616) % 6 = (m : Int) ∧ (k % 18446744073709551616).toNat % 6 = m :=
  ⟨(k % 18446744073709551616).toNat % 6, by omega, by omega, rfl⟩

set_option maxHeartbeats 4000000 in
set_option maxRecDepth 100000 in
theorem rv_0 (k : Int) (y : Bool) (n : Int) (t : ByteArray) (lv fv : Value) (hm : (k % 18446744073709551616) % 6 = ((0 : Nat) : Int)) (w : World) :
    Calls Try.prog 19 #[.agg #[.int .i64 k, .bool y, .int .i64 n, .string t, lv, fv]] w (RvP (V.null) w) := by
  have hk : (IntKind.u64.wrap k).tmod 6 = 0 := kind_mod k 0 hm
  clear hm
  go_enter Try.func19, Try.ntmps19
  go_wp2
  refine bodyPost_ret (v := .agg #[.int .i64 0, .bool false, .int .i64 0, .string ⟨#[]⟩, .slice none 0 0, .slice none 0 0]) (by simp [results, Try.results19, go_sem]) rfl ⟨_, _, rfl, none_here _ _ _ _, (((Below.refl _ _).alloc (Nat.le_refl _) _).alloc (by simp) _).alloc (by simp; omega) _⟩

set_option maxHeartbeats 4000000 in
set_option maxRecDepth 100000 in
theorem rv_1 (k : Int) (y : Bool) (n : Int) (t : ByteArray) (lv fv : Value) (hm : (k % 18446744073709551616) % 6 = ((1 : Nat) : Int)) (w : World) :
    Calls Try.prog 19 #[.agg #[.int .i64 k, .bool y, .int .i64 n, .string t, lv, fv]] w (RvP (V.ofBool y) w) := by
  have hk : (IntKind.u64.wrap k).tmod 6 = 1 := kind_mod k 1 hm
  clear hm
  go_enter Try.func19, Try.ntmps19
  go_wp2
  refine bodyPost_ret (v := .agg #[.int .i64 1, .bool y, .int .i64 0, .string ⟨#[]⟩, .slice none 0 0, .slice none 0 0]) (by simp [results, Try.results19, go_sem]) rfl ⟨_, _, rfl, none_here _ _ _ _, (((Below.refl _ _).alloc (Nat.le_refl _) _).alloc (by simp) _).alloc (by simp; omega) _⟩

set_option maxHeartbeats 4000000 in
set_option maxRecDepth 100000 in
theorem rv_2 (k : Int) (y : Bool) (n : Int) (t : ByteArray) (lv fv : Value) (hm : (k % 18446744073709551616) % 6 = ((2 : Nat) : Int)) (w : World) :
    Calls Try.prog 19 #[.agg #[.int .i64 k, .bool y, .int .i64 n, .string t, lv, fv]] w (RvP (V.ofInt n) w) := by
  have hk : (IntKind.u64.wrap k).tmod 6 = 2 := kind_mod k 2 hm
  clear hm
  go_enter Try.func19, Try.ntmps19
  go_wp2
  refine bodyPost_ret (v := .agg #[.int .i64 2, .bool false, .int .i64 n, .string ⟨#[]⟩, .slice none 0 0, .slice none 0 0]) (by simp [results, Try.results19, go_sem]) rfl ⟨_, _, rfl, none_here _ _ _ _, (((Below.refl _ _).alloc (Nat.le_refl _) _).alloc (by simp) _).alloc (by simp; omega) _⟩

set_option maxHeartbeats 4000000 in
set_option maxRecDepth 100000 in
theorem rv_3 (k : Int) (y : Bool) (n : Int) (t : ByteArray) (lv fv : Value) (hm : (k % 18446744073709551616) % 6 = ((3 : Nat) : Int)) (w : World) :
    Calls Try.prog 19 #[.agg #[.int .i64 k, .bool y, .int .i64 n, .string t, lv, fv]] w (RvP (V.ofText t) w) := by
  have hk : (IntKind.u64.wrap k).tmod 6 = 3 := kind_mod k 3 hm
  clear hm
  go_enter Try.func19, Try.ntmps19
  go_wp2
  refine bodyPost_ret (v := .agg #[.int .i64 3, .bool false, .int .i64 0, .string t, .slice none 0 0, .slice none 0 0]) (by simp [results, Try.results19, go_sem]) rfl ⟨_, _, rfl, none_here _ _ _ _, (((Below.refl _ _).alloc (Nat.le_refl _) _).alloc (by simp) _).alloc (by simp; omega) _⟩

theorem rv_small (k : Int) (y : Bool) (n : Int) (t : ByteArray) (l : List V) (f : List Fd) (lv fv : Value) (m : Nat) (hm : (k % 18446744073709551616) % 6 = (m : Int)) (hm2 : (k % 18446744073709551616).toNat % 6 = m) (h : m < 4) (w : World) :
    Calls Try.prog 19 #[.agg #[.int .i64 k, .bool y, .int .i64 n, .string t, lv, fv]] w (RvP (V.mk k y n t l f).rv w) := by
  rw [V.rv, hm2]
  match m, hm, h with
  | 0, hm, _ => exact rv_0 k y n t lv fv hm w
  | 1, hm, _ => exact rv_1 k y n t lv fv hm w
  | 2, hm, _ => exact rv_2 k y n t lv fv hm w
  | 3, hm, _ => exact rv_3 k y n t lv fv hm w

end Go.Proofs.Ytmodegncifopaaa
end

section
namespace Go.Proofs.Ytmodegncifopaaa
open Go.RowKit

def RightOK (N : Nat) : Prop := ∀ (v : V) (d : Int) (lv fv : Value) (w : World), v.dep ≤ N → v.few d = true → v.Is w lv fv →
  Calls Try.prog 19 #[.agg #[.int .i64 v.kind, .bool v.yes, .int .i64 v.num, .string v.text, lv, fv]] w (RvP v.rv w)

attribute [-go_sem] Builtin.append_

theorem VRow.belowR {w w' : World} {B : Nat} {vv : Value} {vs : List V} (h : VRow w B vv vs) (hb : Below w.heap.size w w') : VRow w' B vv vs := h.keep (fun b _ hlt => hb.block b hlt) hb.size

theorem VRow.own {w : World} {B : Nat} {vv : Value} {vs : List V} (h : VRow w B vv vs) : ∀ q, vv.ownBlock = some q → B ≤ q ∧ q < w.heap.size := by
  obtain ⟨cs, h1, _⟩ := h
  exact fun q hq => World.ownsRow.lt h1 q hq

theorem three_boxes (w : World) (a0 a1 a2 : Array Value) (t : TypeId) :
    Box (((w.alloc (.cells a0 t)).alloc (.cells a1 t)).alloc (.cells a2 t)) (w.heap.size + 1) t a1 ∧ Box (((w.alloc (.cells a0 t)).alloc (.cells a1 t)).alloc (.cells a2 t)) (w.heap.size + 1 + 1) t a2 ∧
      Below w.heap.size w (((w.alloc (.cells a0 t)).alloc (.cells a1 t)).alloc (.cells a2 t)) := by
  have h1 := Box.new (w.alloc (.cells a0 t)) t a1
  have h2 := Box.new ((w.alloc (.cells a0 t)).alloc (.cells a1 t)) t a2
  have e1 : (w.alloc (.cells a0 t)).heap.size = w.heap.size + 1 := by simp
  have e2 : ((w.alloc (.cells a0 t)).alloc (.cells a1 t)).heap.size = w.heap.size + 1 + 1 := by simp
  rw [e1] at h1
  rw [e2] at h2
  exact ⟨h1.alloc _, h2, (((Below.refl _ _).alloc (Nat.le_refl _) _).alloc (by rw [e1]; omega) _).alloc (by rw [e2]; omega) _⟩

set_option maxHeartbeats 4000000 in
set_option maxRecDepth 100000 in
theorem rv_list (N : Nat) (ih : RightOK N) (k : Int) (y : Bool) (n : Int) (t : ByteArray) (l : List V) (d : Int) (hd : ∀ x ∈ l, x.dep ≤ N) (hf : ∀ x ∈ l, x.few d = true) (hlen : l.length ≤ 8) (lv fv : Value) (hm : (k % 18446744073709551616) % 6 = ((4 : Nat) : Int)) (w : World) (hl : LAt w All l lv) :
    Calls Try.prog 19 #[.agg #[.int .i64 k, .bool y, .int .i64 n, .string t, lv, fv]] w (RvP (V.ofList (l.map V.rv)) w) := by
  have hk : (IntKind.u64.wrap k).tmod 6 = 4 := kind_mod k 4 hm
  obtain ⟨a, c, rfl, _, _, hcl⟩ := hl
  have HC := Lib.hid hcl
  have HD := Lib.hid hd
  have HF := Lib.hid hf
  have HLEN := Lib.hid hlen
  clear hm hcl hd hf
  go_enter Try.func19, Try.ntmps19
  go_wp2
  clear hk
  go_loopw [37] (fun cc wr => ∃ (j : Nat) (vv : Value), j ≤ l.length ∧ cc = .int .i64 j ∧ Box wr (w.heap.size + 1) 26 #[.int .i64 0, .bool false, .int .i64 0, .string ⟨#[]⟩, .slice none 0 0, .slice none 0 0] ∧
    Box wr (w.heap.size + 1 + 1) 26 #[.int .i64 4, .bool false, .int .i64 0, .string ⟨#[]⟩, vv, .slice none 0 0] ∧ VRow wr (w.heap.size + 3) vv ((l.take j).map V.rv) ∧ Below w.heap.size w wr) (fun cc _ => l.length - (intOf cc).toNat)
  case atStart =>
    obtain ⟨h1, h2, h3⟩ := three_boxes w #[.int .i64 k, .bool y, .int .i64 n, .string t, .slice a l.length c, fv] #[.int .i64 0, .bool false, .int .i64 0, .string ⟨#[]⟩, .slice none 0 0, .slice none 0 0] #[.int .i64 4, .bool false, .int .i64 0, .string ⟨#[]⟩, .slice none 0 0, .slice none 0 0] 26
    exact ⟨0, .slice none 0 0, Nat.zero_le _, rfl, h1, h2, VRow.nil _ _, h3⟩
  case round =>
    obtain ⟨j, vv, hj, rfl, hZ, hO, hrow, hb⟩ := hrel
    have hzr := hb.size
    have hOlt := hO.lt
    have hlen := HLEN.out
    by_cases hjl : j < l.length
    · have hjl' : (j : Int) < (l.length : Int) := by omega
      obtain ⟨b0, off, ea, hbl, hC⟩ : ∃ b0 off, a = some ⟨b0, off, none⟩ ∧ b0 < wr.heap.size ∧ LCells wr All b0 off l := by
        rcases HC.out with h | ⟨b0, off, ea, _, hb0, hC⟩
        · rw [h] at hjl; simp at hjl
        · exact ⟨b0, off, ea, Nat.lt_of_lt_of_le hb0 hb.size, LCells.keepAll hC hb hb0⟩
      subst ea
      obtain ⟨lx, fx, hin, hel⟩ := hC.get hjl
      have hxd := HD.out _ (List.getElem_mem hjl)
      have hxf := HF.out _ (List.getElem_mem hjl)
      have htk : (l.take (j + 1)).map V.rv = (l.take j).map V.rv ++ [(l[j]).rv] := by rw [List.take_succ_eq_append_getElem hjl, List.map_append]; rfl
      obtain ⟨x, hxe⟩ : ∃ y, y = l[j] := ⟨_, rfl⟩
      rw [← hxe] at hin hel hxd hxf htk
      have HTK := Lib.hid htk
      clear hxe hC htk
      replace hel : x.Is wr lx fx := hel
      obtain ⟨⟨px, pc, rfl⟩, ⟨py, pd, rfl⟩, _, _⟩ := hel.len
      obtain ⟨p0, p1, p2, p3, p4, p5⟩ := hin.six
      have hb1 : Below wr.heap.size wr (wr.alloc (.cells #[.int .i64 x.kind, .bool x.yes, .int .i64 x.num, .string x.text, .slice px x.list.length pc, .slice py x.fields.length pd] 26)) := (Below.refl _ wr).alloc (Nat.le_refl _) _
      have hcall := ih x d _ _ _ hxd hxf (V.At.drew (V.Is.below hel hb1))
      have HCALL := Lib.hid hcall
      have HB1 := Lib.hid hb1
      have HBW := Lib.hid hb
      have HROW := Lib.hid hrow
      obtain ⟨⟨o0, o1, o2, o3, o4, o5⟩, _⟩ := hO.six
      have HO := Lib.hid hO
      have HZ := Lib.hid hZ
      have HLT : Hid (w.heap.size + 1 + 1 < wr.heap.size) := Lib.hid hO.lt
      have HSL : Hid (∀ w3, Below (wr.alloc (.cells #[.int .i64 x.kind, .bool x.yes, .int .i64 x.num, .string x.text, .slice px x.list.length pc, .slice py x.fields.length pd] 26)).drew.heap.size (wr.alloc (.cells #[.int .i64 x.kind, .bool x.yes, .int .i64 x.num, .string x.text, .slice px x.list.length pc, .slice py x.fields.length pd] 26)).drew w3 → Below wr.heap.size wr w3 ∧ wr.heap.size + 1 ≤ w3.heap.size) := Lib.hid (fun w3 hb3 => by
        have e : (wr.alloc (.cells #[.int .i64 x.kind, .bool x.yes, .int .i64 x.num, .string x.text, .slice px x.list.length pc, .slice py x.fields.length pd] 26)).drew.heap.size = wr.heap.size + 1 := by
          show (wr.alloc (.cells #[.int .i64 x.kind, .bool x.yes, .int .i64 x.num, .string x.text, .slice px x.list.length pc, .slice py x.fields.length pd] 26)).heap.size = _
          simp
        exact ⟨hb1.drew.trans (hb3.mono (by rw [e]; omega)), by have := hb3.size; rw [e] at this; exact this⟩)
      have HO3 : Hid (∀ w3, Below (wr.alloc (.cells #[.int .i64 x.kind, .bool x.yes, .int .i64 x.num, .string x.text, .slice px x.list.length pc, .slice py x.fields.length pd] 26)).drew.heap.size (wr.alloc (.cells #[.int .i64 x.kind, .bool x.yes, .int .i64 x.num, .string x.text, .slice px x.list.length pc, .slice py x.fields.length pd] 26)).drew w3 → Box w3 (w.heap.size + 1 + 1) 26 #[.int .i64 4, .bool false, .int .i64 0, .string ⟨#[]⟩, vv, .slice none 0 0]) := Lib.hid (fun w3 hb3 => ((HSL.out w3 hb3).1.block _ HLT.out).trans HO.out)
      have HK : Hid (∀ w3 lv' fv', x.rv.At w3 (fun q => (wr.alloc (.cells #[.int .i64 x.kind, .bool x.yes, .int .i64 x.num, .string x.text, .slice px x.list.length pc, .slice py x.fields.length pd] 26)).drew.heap.size ≤ q) lv' fv' → Below (wr.alloc (.cells #[.int .i64 x.kind, .bool x.yes, .int .i64 x.num, .string x.text, .slice px x.list.length pc, .slice py x.fields.length pd] 26)).drew.heap.size (wr.alloc (.cells #[.int .i64 x.kind, .bool x.yes, .int .i64 x.num, .string x.text, .slice px x.list.length pc, .slice py x.fields.length pd] 26)).drew w3 →
          ∃ qa qc w4, (Builtin.append_ #[23, 23] 23 #[vv, .slice (some ⟨w3.heap.size, 0, none⟩) 1 1]).run Try.prog (w3.alloc (.cells #[.int .i64 x.rv.kind, .bool x.rv.yes, .int .i64 x.rv.num, .string x.rv.text, lv', fv'] 26)) = .ok (.slice qa (j + 1) qc) w4 ∧
            Box w4 (w.heap.size + 1) 26 #[.int .i64 0, .bool false, .int .i64 0, .string ⟨#[]⟩, .slice none 0 0, .slice none 0 0] ∧ Box w4 (w.heap.size + 1 + 1) 26 #[.int .i64 4, .bool false, .int .i64 0, .string ⟨#[]⟩, vv, .slice none 0 0] ∧ VRow w4 (w.heap.size + 3) (.slice qa (j + 1) qc) ((l.take j).map V.rv ++ [x.rv]) ∧ Below w.heap.size w w4) := Lib.hid (fun w3 lv' fv' hat hb3 => by
        obtain ⟨hb, hsz⟩ := HSL.out w3 hb3
        have hro := HROW.out
        have hrow3 := hro.belowR hb
        have hlt := HLT.out
        obtain ⟨vv', w4, hr, hrow4, hup⟩ := run_app_v w3 (w.heap.size + 3) vv _ hrow3 x.rv lv' fv' hat.is.len.1 hat.is.len.2.1 (hat.wider (fun q hq => ⟨by
          have e : (wr.alloc (.cells #[.int .i64 x.kind, .bool x.yes, .int .i64 x.num, .string x.text, .slice px x.list.length pc, .slice py x.fields.length pd] 26)).drew.heap.size = wr.heap.size + 1 := by
            show (wr.alloc (.cells #[.int .i64 x.kind, .bool x.yes, .int .i64 x.num, .string x.text, .slice px x.list.length pc, .slice py x.fields.length pd] 26)).heap.size = _
            simp
          rw [e] at hq; omega, fun e2 => by
          have e : (wr.alloc (.cells #[.int .i64 x.kind, .bool x.yes, .int .i64 x.num, .string x.text, .slice px x.list.length pc, .slice py x.fields.length pd] 26)).drew.heap.size = wr.heap.size + 1 := by
            show (wr.alloc (.cells #[.int .i64 x.kind, .bool x.yes, .int .i64 x.num, .string x.text, .slice px x.list.length pc, .slice py x.fields.length pd] 26)).heap.size = _
            simp
          rw [e] at hq
          have := (hro.own q e2).2
          omega⟩)) 1 (by simp; omega) (by omega)
        obtain ⟨qa, qc, rfl, _, _⟩ := hrow4.form
        have hn1 : ((l.take j).map V.rv ++ [x.rv]).length = j + 1 := by rw [List.length_append, List.length_map, List.length_take]; simp; omega
        rw [hn1] at hr hrow4 hup
        have hne : ∀ q, vv.ownBlock = some q → w.heap.size + 3 ≤ q := fun q hq => (hro.own q hq).1
        refine ⟨qa, qc, w4, hr, ?_, ?_, hrow4, ?_⟩
        · exact (hup.1.block _ (by omega) (fun e => by have := hne _ e.symm; omega)).trans ((hb.block _ (by omega)).trans HZ.out)
        · exact (hup.1.block _ (by omega) (fun e => by have := hne _ e.symm; omega)).trans (HO3.out w3 hb3)
        · exact ((HBW.out.trans (hb.mono hzr)).grown hup.1 (by omega) (fun q hq => by have := hne q hq; omega)))
      clear hin hel hcall hb1 hrow hO hZ
      go_wp2_with fail
      go_region_with ((go_at_call 19; refine HCALL.out.mono ?_; rintro e w3 ⟨lv', fv', rfl, hat, hb3⟩; obtain ⟨qa, qc, w4, hr, hZ4, hO4, hrow4, hb4⟩ := HK.out w3 lv' fv' hat hb3; obtain ⟨⟨l0, l1, rfl⟩, ⟨l2, l3, rfl⟩, _, _⟩ := hat.is.len; obtain ⟨⟨q0, q1, q2, q3, q4, q5⟩, f0, f1, f2, f3, f4, f5⟩ := hO4.six; obtain ⟨⟨r0, r1, r2, r3, r4, r5⟩, _⟩ := (HO3.out w3 hb3).six; obtain ⟨⟨s0, s1, s2, s3, s4, s5⟩, _⟩ := ((HO3.out w3 hb3).alloc (.cells #[.int .i64 x.rv.kind, .bool x.rv.yes, .int .i64 x.rv.num, .string x.rv.text, .slice l0 x.rv.list.length l1, .slice l2 x.rv.fields.length l3] 26)).six))
      all_goals
        have HE := Lib.hid (And.intro hZ4 (And.intro hO4 (And.intro hrow4 hb4)))
        clear hZ4 hO4 hrow4 hb4
        go_wp2
        go_roundw
        case rel =>
          obtain ⟨hZ4, hO4, hrow4, hb4⟩ := HE.out
          refine ⟨j + 1, .slice qa (j + 1) qc, by omega, by go_num, hZ4.setFar (by show w.heap.size + 1 ≠ w.heap.size + 1 + 1; omega) _, hO4.setSame 4 _, ?_, hb4.setCell (by show w.heap.size ≤ w.heap.size + 1 + 1; omega) _⟩
          rw [HTK.out]
          exact hrow4.keep (fun q hq _ => Below.heap_setCell _ _ _ q (by show q ≠ w.heap.size + 1 + 1; omega)) (by simp [World.setCell])
        case measure => simp [intOf]; omega
    · have hge : ¬ (j : Int) < (l.length : Int) := by omega
      obtain rfl : j = l.length := by omega
      rw [List.take_of_length_le (Nat.le_refl _)] at hrow
      obtain ⟨va, vc, rfl, _, _⟩ := hrow.form
      rw [List.length_map] at hrow hO
      have hF := Box.sets [.int .i64 4, .bool false, .int .i64 0, .string ⟨#[]⟩, .slice va l.length vc, .slice none 0 0] 0 hZ
      obtain ⟨⟨k0, k1, k2, k3, k4, k5⟩, _⟩ := Box.six (c0 := .int .i64 4) (c1 := .bool false) (c2 := .int .i64 0) (c3 := .string ⟨#[]⟩) (c4 := .slice va l.length vc) (c5 := .slice none 0 0) hF
      simp only [sets, Nat.zero_add, Nat.reduceAdd] at k0 k1 k2 k3 k4 k5
      have hb5 := Below.sets [.int .i64 4, .bool false, .int .i64 0, .string ⟨#[]⟩, .slice va l.length vc, .slice none 0 0] 0 hb (g := w.heap.size + 1) (by omega)
      have hL1 := hrow.at_
      rw [show (Value.slice va l.length vc) = .slice va (l.map V.rv).length vc by rw [List.length_map]] at *
      have hat5 : (V.ofList (l.map V.rv)).At (sets wr (w.heap.size + 1) 0 [.int .i64 4, .bool false, .int .i64 0, .string ⟨#[]⟩, .slice va (l.map V.rv).length vc, .slice none 0 0]) (fun q => w.heap.size ≤ q) (.slice va (l.map V.rv).length vc) (.slice none 0 0) :=
        V.at_iff.2 ⟨LAt.move (fun q hq _ => ⟨by omega, sets_far _ _ _ _ (by omega)⟩) (by rw [sets_size]; exact Nat.le_refl _) hL1, none, 0, rfl, Nat.le_refl _, by unfold maxLen; omega, .inl rfl⟩
      obtain ⟨⟨z0, z1, z2, z3, z4, z5⟩, s0, s1, s2, s3, s4, s5⟩ := hZ.six
      obtain ⟨⟨o0, o1, o2, o3, o4, o5⟩, _⟩ := hO.six
      rw [show (Value.slice va (l.map V.rv).length vc) = .slice va l.length vc by rw [List.length_map]] at *
      have HE := Lib.hid (And.intro hb5 hat5)
      clear hF hL1 hb hZ hO hrow hb5 hat5
      go_wp2
      refine bodyPost_ret (v := .agg #[.int .i64 4, .bool false, .int .i64 0, .string ⟨#[]⟩, .slice va l.length vc, .slice none 0 0]) (by simp [results, Try.results19, go_sem, k0, k1, k2, k3, k4, k5]) rfl ⟨_, _, rfl, HE.out.2, HE.out.1⟩

end Go.Proofs.Ytmodegncifopaaa
end

section
namespace Go.Proofs.Ytmodegncifopaaa

theorem insF_length (p : Fd) : ∀ l : List Fd, (insF p l).length ≤ l.length + 1
  | [] => by simp [insF]
  | q :: l => by
    unfold insF
    split
    · simp
    · split
      · simp
      · have := insF_length p l
        simp only [List.length_cons]; omega

theorem keptL_length (fs : List Fd) : (keptL fs).length ≤ fs.length := by
  have key : ∀ (k : Nat) (fs : List Fd), fs.length = k → (keptL fs).length ≤ k := by
    intro k
    induction k with
    | zero => intro fs h; obtain rfl := List.eq_nil_of_length_eq_zero h; simp [keptL]
    | succ k ih =>
      intro fs h
      have hne : fs ≠ [] := by intro e; rw [e] at h; cases h
      have e := List.dropLast_concat_getLast hne
      have h1 := ih fs.dropLast (by simp [h])
      rw [← e, keptL_append]
      have := insF_length (fs.getLast hne) (keptL fs.dropLast)
      omega
  exact key _ fs rfl

theorem keptL_mem {fs : List Fd} {x : Fd} (h : x ∈ keptL fs) : x ∈ fs := by
  have key : ∀ (k : Nat) (fs : List Fd), fs.length = k → ∀ x ∈ keptL fs, x ∈ fs := by
    intro k
    induction k with
    | zero => intro fs h x hx; obtain rfl := List.eq_nil_of_length_eq_zero h; simp [keptL] at hx
    | succ k ih =>
      intro fs h x hx
      have hne : fs ≠ [] := by intro e; rw [e] at h; cases h
      have e := List.dropLast_concat_getLast hne
      rw [← e, keptL_append] at hx
      rw [← e]
      rcases insF_mem _ _ x hx with h1 | h1
      · simp [h1]
      · exact List.mem_append.2 (.inl (ih fs.dropLast (by simp [h]) x h1))
  exact key _ fs rfl x h

theorem few_parts {k : Int} {y : Bool} {n : Int} {t : ByteArray} {l : List V} {f : List Fd} {d : Int} (h : (V.mk k y n t l f).few d = true) :
    d ≤ 6 ∧ l.length ≤ 8 ∧ f.length ≤ 8 ∧ t.size ≤ 200 ∧ fewL l (d + 1) = true ∧ fewF f (d + 1) = true := by
  rw [V.few] at h
  simpa only [Bool.and_eq_true, decide_eq_true_eq] using h

theorem few_mk {k : Int} {y : Bool} {n : Int} {t : ByteArray} {l : List V} {f : List Fd} {d : Int} (h : d ≤ 6 ∧ l.length ≤ 8 ∧ f.length ≤ 8 ∧ t.size ≤ 200 ∧ fewL l (d + 1) = true ∧ fewF f (d + 1) = true) : (V.mk k y n t l f).few d = true := by
  rw [V.few]
  simpa only [Bool.and_eq_true, decide_eq_true_eq] using h

theorem rv_few : ∀ (N : Nat) (v : V) (d : Int), v.dep ≤ N → v.few d = true → v.rv.few d = true
  | 0, v, d, hd, _ => by
    cases v
    rw [V.dep] at hd
    omega
  | N + 1, .mk k y n t l f, d, hd, h => by
    have hdl : ∀ x ∈ l, x.dep ≤ N := fun x hx => by have := dep_list (v := .mk k y n t l f) hx; omega
    have hdf : ∀ p ∈ f, p.2.dep ≤ N := fun p hp => by have := dep_fields (v := .mk k y n t l f) hp; omega
    obtain ⟨h1, h2, h3, h4, h5, h6⟩ := few_parts h
    have hL : fewL (rvL l) (d + 1) = true := by
      rw [rvL_map]
      refine fewL_iff.2 fun x hx => ?_
      obtain ⟨z, hz, rfl⟩ := List.mem_map.1 hx
      exact rv_few N z _ (hdl z hz) (fewL_iff.1 h5 z hz)
    have hF : ∀ p ∈ rvF f, p.1.size ≤ 40 ∧ p.2.few (d + 1) = true := by
      rw [rvF_map]
      intro x hx
      obtain ⟨z, hz, rfl⟩ := List.mem_map.1 hx
      obtain ⟨g1, g2⟩ := fewF_iff.1 h6 z hz
      exact ⟨g1, rv_few N z.2 _ (hdf z hz) g2⟩
    have hl : (rvL l).length ≤ 8 := by rw [rvL_map, List.length_map]; exact h2
    have hf : (keptL (rvF f)).length ≤ 8 := by
      have := keptL_length (rvF f)
      rw [rvF_map, List.length_map] at this
      rw [rvF_map]; omega
    rw [V.rv]
    unfold rvK
    have e0 : (⟨#[]⟩ : ByteArray).size ≤ 200 := by decide
    split
    · exact few_mk ⟨h1, by simp, by simp, e0, rfl, rfl⟩
    · split
      · exact few_mk ⟨h1, by simp, by simp, e0, rfl, rfl⟩
      · split
        · exact few_mk ⟨h1, by simp, by simp, h4, rfl, rfl⟩
        · split
          · exact few_mk ⟨h1, hl, by simp, e0, hL, rfl⟩
          · split
            · exact few_mk ⟨h1, by simp, hf, e0, rfl, fewF_iff.2 fun p hp => hF p (keptL_mem hp)⟩
            · exact few_mk ⟨h1, by simp, by simp, e0, rfl, rfl⟩

theorem rv_n64 : ∀ (N : Nat) (v : V), v.dep ≤ N → v.n64 → v.rv.n64
  | 0, v, hd, _ => by
    cases v
    rw [V.dep] at hd
    omega
  | N + 1, .mk k y n t l f, hd, h => by
    have hdl : ∀ x ∈ l, x.dep ≤ N := fun x hx => by have := dep_list (v := .mk k y n t l f) hx; omega
    have hdf : ∀ p ∈ f, p.2.dep ≤ N := fun p hp => by have := dep_fields (v := .mk k y n t l f) hp; omega
    obtain ⟨h1, h2, h3⟩ := h
    have z0 : Is64 0 := by unfold Is64; omega
    have hL : n64L (rvL l) := by
      rw [rvL_map]
      refine n64L_iff.2 fun x hx => ?_
      obtain ⟨z, hz, rfl⟩ := List.mem_map.1 hx
      exact rv_n64 N z (hdl z hz) (n64L_iff.1 h2 z hz)
    have hF : ∀ p ∈ rvF f, p.2.n64 := by
      rw [rvF_map]
      intro x hx
      obtain ⟨z, hz, rfl⟩ := List.mem_map.1 hx
      exact rv_n64 N z.2 (hdf z hz) (n64F_iff.1 h3 z hz)
    rw [V.rv]
    unfold rvK
    split
    · exact ⟨z0, trivial, trivial⟩
    · split
      · exact ⟨h1, trivial, trivial⟩
      · split
        · exact ⟨z0, trivial, trivial⟩
        · split
          · exact ⟨z0, hL, trivial⟩
          · split
            · exact ⟨z0, trivial, n64F_iff.2 fun p hp => hF p (keptL_mem hp)⟩
            · exact ⟨z0, trivial, trivial⟩

end Go.Proofs.Ytmodegncifopaaa
end

section
namespace Go.Proofs.Ytmodegncifopaaa
open Go.RowKit

attribute [-go_sem] Builtin.append_

theorem few_sm : ∀ (N : Nat) (v : V) (d : Int), v.dep ≤ N → v.few d = true → v.sm
  | 0, v, d, hd, _ => by
    cases v
    rw [V.dep] at hd
    omega
  | N + 1, .mk k y n t l f, d, hd, h => by
    have hdl : ∀ x ∈ l, x.dep ≤ N := fun x hx => by have := dep_list (v := .mk k y n t l f) hx; omega
    have hdf : ∀ p ∈ f, p.2.dep ≤ N := fun p hp => by have := dep_fields (v := .mk k y n t l f) hp; omega
    obtain ⟨_, h2, h3, _, h5, h6⟩ := few_parts h
    exact ⟨⟨by omega, by omega⟩, smL_iff.2 fun x hx => few_sm N x _ (hdl x hx) (fewL_iff.1 h5 x hx), smF_iff.2 fun p hp => few_sm N p.2 _ (hdf p hp) (fewF_iff.1 h6 p hp).2⟩

theorem FRow.belowR {w w' : World} {B : Nat} {vv : Value} {vs : List Fd} (h : FRow w B vv vs) (hb : Below w.heap.size w w') : FRow w' B vv vs := h.keep (fun b _ hlt => hb.block b hlt) hb.size

theorem FRow.own {w : World} {B : Nat} {vv : Value} {vs : List Fd} (h : FRow w B vv vs) : ∀ q, vv.ownBlock = some q → B ≤ q ∧ q < w.heap.size := by
  obtain ⟨cs, h1, _⟩ := h
  exact fun q hq => World.ownsRow.lt h1 q hq

theorem FRow.made (w : World) (B : Nat) (hB : B ≤ w.heap.size) : FRow (w.alloc (.cells #[] 43)) B (.slice (some ⟨w.heap.size, 0, none⟩) 0 0) [] :=
  ⟨[], World.ownsRow_made w #[] 0 hB (by decide) rfl, fun i h => by simp at h⟩

set_option maxHeartbeats 4000000 in
set_option maxRecDepth 100000 in
theorem rv_map (N : Nat) (ih : RightOK N) (k : Int) (y : Bool) (n : Int) (t : ByteArray) (f : List Fd) (d : Int) (hd : ∀ p ∈ f, p.2.dep ≤ N) (hf : ∀ p ∈ f, p.2.few d = true) (hlen : f.length ≤ 8) (lv fv : Value) (hm : (k % 18446744073709551616) % 6 = ((5 : Nat) : Int)) (w : World) (hl : FAt w All f fv) :
    Calls Try.prog 19 #[.agg #[.int .i64 k, .bool y, .int .i64 n, .string t, lv, fv]] w (RvP (V.ofMap (keptL (f.map (fun p : Fd => (p.1, p.2.rv))))) w) := by
  have hk : (IntKind.u64.wrap k).tmod 6 = 5 := kind_mod k 5 hm
  obtain ⟨a, c, rfl, _, _, hcl⟩ := hl
  have HC := Lib.hid hcl
  have HD := Lib.hid hd
  have HF := Lib.hid hf
  have HLEN := Lib.hid hlen
  obtain ⟨e1, e2, e3⟩ := three_boxes w #[.int .i64 k, .bool y, .int .i64 n, .string t, lv, .slice a f.length c] #[.int .i64 0, .bool false, .int .i64 0, .string ⟨#[]⟩, .slice none 0 0, .slice none 0 0] #[.int .i64 5, .bool false, .int .i64 0, .string ⟨#[]⟩, .slice none 0 0, .slice none 0 0] 26
  have hz3 : (((w.alloc (.cells #[.int .i64 k, .bool y, .int .i64 n, .string t, lv, .slice a f.length c] 26)).alloc (.cells #[.int .i64 0, .bool false, .int .i64 0, .string ⟨#[]⟩, .slice none 0 0, .slice none 0 0] 26)).alloc (.cells #[.int .i64 5, .bool false, .int .i64 0, .string ⟨#[]⟩, .slice none 0 0, .slice none 0 0] 26)).heap.size = w.heap.size + 1 + 1 + 1 := by simp
  have hmade := FRow.made (((w.alloc (.cells #[.int .i64 k, .bool y, .int .i64 n, .string t, lv, .slice a f.length c] 26)).alloc (.cells #[.int .i64 0, .bool false, .int .i64 0, .string ⟨#[]⟩, .slice none 0 0, .slice none 0 0] 26)).alloc (.cells #[.int .i64 5, .bool false, .int .i64 0, .string ⟨#[]⟩, .slice none 0 0, .slice none 0 0] 26)) (w.heap.size + 3) (by rw [hz3]; omega)
  rw [hz3] at hmade
  have HST := Lib.hid (And.intro (e1.alloc (.cells #[] 43)) (And.intro (e2.alloc (.cells #[] 43)) (And.intro hmade (e3.alloc (by rw [hz3]; omega) (.cells #[] 43)))))
  clear hm hcl hd hf e1 e2 e3 hz3 hmade
  go_enter Try.func19, Try.ntmps19
  go_wp2
  clear hk
  go_loopw [6, 55] (fun vv cc wr => ∃ (j : Nat), j ≤ f.length ∧ cc = .int .i64 j ∧ Box wr (w.heap.size + 1) 26 #[.int .i64 0, .bool false, .int .i64 0, .string ⟨#[]⟩, .slice none 0 0, .slice none 0 0] ∧
    Box wr (w.heap.size + 1 + 1) 26 #[.int .i64 5, .bool false, .int .i64 0, .string ⟨#[]⟩, .slice none 0 0, .slice none 0 0] ∧ FRow wr (w.heap.size + 3) vv ((f.take j).map (fun p : Fd => (p.1, p.2.rv))) ∧ Below w.heap.size w wr) (fun _ cc _ => f.length - (intOf cc).toNat)
  case atStart => exact ⟨0, Nat.zero_le _, rfl, HST.out.1, HST.out.2.1, HST.out.2.2.1, HST.out.2.2.2⟩
  case round =>
    clear HST
    obtain ⟨j, hj, rfl, hZ, hO, hrow, hb⟩ := hrel
    have hzr := hb.size
    have hOlt := hO.lt
    have hlen := HLEN.out
    by_cases hjl : j < f.length
    · have hjl' : (j : Int) < (f.length : Int) := by omega
      obtain ⟨b0, off, ea, hbl, hC⟩ : ∃ b0 off, a = some ⟨b0, off, none⟩ ∧ b0 < wr.heap.size ∧ FCells wr All b0 off f := by
        rcases HC.out with h | ⟨b0, off, ea, _, hb0, hC⟩
        · rw [h] at hjl; simp at hjl
        · exact ⟨b0, off, ea, Nat.lt_of_lt_of_le hb0 hb.size, FCells.keepAll hC hb hb0⟩
      subst ea
      obtain ⟨lx, fx, hin, hel⟩ := hC.get hjl
      have hxd := HD.out _ (List.getElem_mem hjl)
      have hxf := HF.out _ (List.getElem_mem hjl)
      have htk : (f.take (j + 1)).map (fun p : Fd => (p.1, p.2.rv)) = (f.take j).map (fun p : Fd => (p.1, p.2.rv)) ++ [((f[j]).1, (f[j]).2.rv)] := by rw [List.take_succ_eq_append_getElem hjl, List.map_append]; rfl
      obtain ⟨p, hpe⟩ : ∃ y, y = f[j] := ⟨_, rfl⟩
      rw [← hpe] at hin hel hxd hxf htk
      obtain ⟨nm, x⟩ := p
      have HTK := Lib.hid htk
      clear hpe hC htk
      replace hel : x.Is wr lx fx := hel
      replace hin : InAt wr b0 (off + j * 7) (.string nm :: x.cells lx fx) := hin
      replace hxd : x.dep ≤ N := hxd
      replace hxf : x.few d = true := hxf
      obtain ⟨⟨px, pc, rfl⟩, ⟨py, pd, rfl⟩, _, _⟩ := hel.len
      obtain ⟨p0, p1, p2, p3, p4, p5, p6⟩ := hin.seven
      have hb1 : Below wr.heap.size wr (wr.alloc (.cells #[.string nm, .int .i64 x.kind, .bool x.yes, .int .i64 x.num, .string x.text, .slice px x.list.length pc, .slice py x.fields.length pd] 43)) := (Below.refl _ wr).alloc (Nat.le_refl _) _
      have hcall := ih x d _ _ _ hxd hxf (V.At.drew (V.Is.below hel hb1))
      have HCALL := Lib.hid hcall
      have HBW := Lib.hid hb
      have HROW := Lib.hid hrow
      have hN : Box (wr.alloc (.cells #[.string nm, .int .i64 x.kind, .bool x.yes, .int .i64 x.num, .string x.text, .slice px x.list.length pc, .slice py x.fields.length pd] 43)).drew wr.heap.size 43 #[.string nm, .int .i64 x.kind, .bool x.yes, .int .i64 x.num, .string x.text, .slice px x.list.length pc, .slice py x.fields.length pd] := Box.new wr _ _
      have HO := Lib.hid hO
      have HZ := Lib.hid hZ
      have HNB := Lib.hid hN
      have HLT : Hid (w.heap.size + 1 + 1 < wr.heap.size) := Lib.hid hO.lt
      have HSL : Hid (∀ w3, Below (wr.alloc (.cells #[.string nm, .int .i64 x.kind, .bool x.yes, .int .i64 x.num, .string x.text, .slice px x.list.length pc, .slice py x.fields.length pd] 43)).drew.heap.size (wr.alloc (.cells #[.string nm, .int .i64 x.kind, .bool x.yes, .int .i64 x.num, .string x.text, .slice px x.list.length pc, .slice py x.fields.length pd] 43)).drew w3 → Below wr.heap.size wr w3 ∧ wr.heap.size + 1 ≤ w3.heap.size ∧ Box w3 wr.heap.size 43 #[.string nm, .int .i64 x.kind, .bool x.yes, .int .i64 x.num, .string x.text, .slice px x.list.length pc, .slice py x.fields.length pd]) := Lib.hid (fun w3 hb3 => by
        have e : (wr.alloc (.cells #[.string nm, .int .i64 x.kind, .bool x.yes, .int .i64 x.num, .string x.text, .slice px x.list.length pc, .slice py x.fields.length pd] 43)).drew.heap.size = wr.heap.size + 1 := by
          show (wr.alloc (.cells #[.string nm, .int .i64 x.kind, .bool x.yes, .int .i64 x.num, .string x.text, .slice px x.list.length pc, .slice py x.fields.length pd] 43)).heap.size = _
          simp
        exact ⟨hb1.drew.trans (hb3.mono (by rw [e]; omega)), by have := hb3.size; rw [e] at this; exact this, (hb3.block _ (by rw [e]; omega)).trans hN⟩)
      have HK : Hid (∀ w3 lv' fv', x.rv.At w3 (fun q => (wr.alloc (.cells #[.string nm, .int .i64 x.kind, .bool x.yes, .int .i64 x.num, .string x.text, .slice px x.list.length pc, .slice py x.fields.length pd] 43)).drew.heap.size ≤ q) lv' fv' → Below (wr.alloc (.cells #[.string nm, .int .i64 x.kind, .bool x.yes, .int .i64 x.num, .string x.text, .slice px x.list.length pc, .slice py x.fields.length pd] 43)).drew.heap.size (wr.alloc (.cells #[.string nm, .int .i64 x.kind, .bool x.yes, .int .i64 x.num, .string x.text, .slice px x.list.length pc, .slice py x.fields.length pd] 43)).drew w3 →
          ∃ qa qc w4, (Builtin.append_ #[24, 24] 24 #[u6, .slice (some ⟨w3.heap.size, 0, none⟩) 1 1]).run Try.prog (w3.alloc (.cells #[.string nm, .int .i64 x.rv.kind, .bool x.rv.yes, .int .i64 x.rv.num, .string x.rv.text, lv', fv'] 43)) = .ok (.slice qa (j + 1) qc) w4 ∧
            Box w4 (w.heap.size + 1) 26 #[.int .i64 0, .bool false, .int .i64 0, .string ⟨#[]⟩, .slice none 0 0, .slice none 0 0] ∧ Box w4 (w.heap.size + 1 + 1) 26 #[.int .i64 5, .bool false, .int .i64 0, .string ⟨#[]⟩, .slice none 0 0, .slice none 0 0] ∧ FRow w4 (w.heap.size + 3) (.slice qa (j + 1) qc) ((f.take j).map (fun p : Fd => (p.1, p.2.rv)) ++ [(nm, x.rv)]) ∧ Below w.heap.size w w4) := Lib.hid (fun w3 lv' fv' hat hb3 => by
        obtain ⟨hb, hsz, _⟩ := HSL.out w3 hb3
        have hro := HROW.out
        have hrow3 := hro.belowR hb
        have hlt := HLT.out
        have e : (wr.alloc (.cells #[.string nm, .int .i64 x.kind, .bool x.yes, .int .i64 x.num, .string x.text, .slice px x.list.length pc, .slice py x.fields.length pd] 43)).drew.heap.size = wr.heap.size + 1 := by
          show (wr.alloc (.cells #[.string nm, .int .i64 x.kind, .bool x.yes, .int .i64 x.num, .string x.text, .slice px x.list.length pc, .slice py x.fields.length pd] 43)).heap.size = _
          simp
        obtain ⟨vv', w4, hr, hrow4, hup⟩ := run_app_f w3 (w.heap.size + 3) u6 _ hrow3 (nm, x.rv) lv' fv' hat.is.len.1 hat.is.len.2.1 (hat.wider (fun q hq => ⟨by
          rw [e] at hq; omega, fun e2 => by
          rw [e] at hq
          have := (hro.own q e2).2
          omega⟩)) 1 (by simp; omega) (by omega)
        have hne : ∀ q, u6.ownBlock = some q → w.heap.size + 3 ≤ q := fun q hq => (hro.own q hq).1
        have hn1 : ((f.take j).map (fun p : Fd => (p.1, p.2.rv)) ++ [(nm, x.rv)]).length = j + 1 := by rw [List.length_append, List.length_map, List.length_take]; simp; omega
        obtain ⟨qa, qc, rfl, _, _⟩ := hrow4.form
        rw [hn1] at hr hrow4 hup
        refine ⟨qa, qc, w4, hr, ?_, ?_, hrow4, ?_⟩
        · exact (hup.1.block _ (by omega) (fun e => by have := hne _ e.symm; omega)).trans ((hb.block _ (by omega)).trans HZ.out)
        · exact (hup.1.block _ (by omega) (fun e => by have := hne _ e.symm; omega)).trans ((hb.block _ (by omega)).trans HO.out)
        · exact ((HBW.out.trans (hb.mono hzr)).grown hup.1 (by omega) (fun q hq => by have := hne q hq; omega)))
      clear hin hel hcall hb1 hrow hO hZ hN
      go_wp2_with fail
      go_region_with ((go_at_call 19; refine HCALL.out.mono ?_; rintro e w3 ⟨lv', fv', rfl, hat, hb3⟩; obtain ⟨qa, qc, w4, hr, hZ4, hO4, hrow4, hb4⟩ := HK.out w3 lv' fv' hat hb3; obtain ⟨⟨l0, l1, rfl⟩, ⟨l2, l3, rfl⟩, _, _⟩ := hat.is.len; obtain ⟨r0, r1, r2, r3, r4, r5, r6⟩ := (HSL.out w3 hb3).2.2.seven; obtain ⟨s0, s1, s2, s3, s4, s5, s6⟩ := ((HSL.out w3 hb3).2.2.alloc (.cells #[.string nm, .int .i64 x.rv.kind, .bool x.rv.yes, .int .i64 x.rv.num, .string x.rv.text, .slice l0 x.rv.list.length l1, .slice l2 x.rv.fields.length l3] 43)).seven))
      all_goals
        have HE := Lib.hid (And.intro hZ4 (And.intro hO4 (And.intro hrow4 hb4)))
        clear hZ4 hO4 hrow4 hb4
        go_wp2
        go_roundw
        case rel =>
          obtain ⟨hZ4, hO4, hrow4, hb4⟩ := HE.out
          exact ⟨j + 1, by omega, by go_num, hZ4, hO4, by rw [HTK.out]; exact hrow4, hb4⟩
        case measure => simp [intOf]; omega
    · have hge : ¬ (j : Int) < (f.length : Int) := by omega
      obtain rfl : j = f.length := by omega
      rw [List.take_of_length_le (Nat.le_refl _)] at hrow
      have hsm : ∀ p ∈ f.map (fun p : Fd => (p.1, p.2.rv)), p.2.sm := fun p hp => by
        obtain ⟨q, hq, rfl⟩ := List.mem_map.1 hp
        exact few_sm _ _ d (Nat.le_refl _) (rv_few _ q.2 d (Nat.le_refl _) (HF.out q hq))
      have hK8 := keptL_length (f.map (fun p : Fd => (p.1, p.2.rv)))
      rw [List.length_map] at hK8
      obtain ⟨va, vc, rfl, _, _⟩ := hrow.form
      obtain ⟨dd, hdd, hcall⟩ := ofMap_any (f.map (fun p : Fd => (p.1, p.2.rv))) _ wr (FAt.move (fun b _ _ => ⟨trivial, rfl⟩) (Nat.le_refl _) hrow.at_) (by rw [List.length_map]; omega) hsm
      rw [kept_is dd, ← hdd] at hcall
      rw [List.length_map] at hcall
      obtain ⟨KL, hKL⟩ : ∃ KL, KL = keptL (f.map (fun p : Fd => (p.1, p.2.rv))) := ⟨_, rfl⟩
      rw [← hKL] at hcall hK8
      have HKL := Lib.hid hKL
      clear hKL
      have HB := Lib.hid hb
      have HZ := Lib.hid hZ
      have HO := Lib.hid hO
      have HCL := Lib.hid hcall
      have hgl : Hid (w.heap.size + 1 + 1 < wr.heap.size) := Lib.hid hOlt
      clear hrow hsm hdd hb hZ hO hcall
      go_wp2_with fail
      refine HCL.out.mono ?_
      rintro e w5 ⟨fv', rfl, hat, hb5⟩
      obtain ⟨_, ⟨qx, qc, rfl⟩, _, _⟩ := hat.is.len
      obtain ⟨kn, hkn⟩ : ∃ kn, kn = (V.ofMap KL).fields.length := ⟨_, rfl⟩
      rw [← hkn] at hat ⊢
      have hlt := hgl.out
      have hZ5 : Box w5 (w.heap.size + 1) 26 #[.int .i64 0, .bool false, .int .i64 0, .string ⟨#[]⟩, .slice none 0 0, .slice none 0 0] := (hb5.block _ (by omega)).trans HZ.out
      have hO5 : Box w5 (w.heap.size + 1 + 1) 26 #[.int .i64 5, .bool false, .int .i64 0, .string ⟨#[]⟩, .slice none 0 0, .slice none 0 0] := (hb5.block _ (by omega)).trans HO.out
      have hbw5 := HB.out.trans (hb5.mono hzr)
      have hO6 := Box.sets [.int .i64 5, .bool false, .int .i64 0, .string ⟨#[]⟩, .slice none 0 0, .slice qx kn qc] 0 hO5
      have hZ6 : Box (sets w5 (w.heap.size + 1 + 1) 0 [.int .i64 5, .bool false, .int .i64 0, .string ⟨#[]⟩, .slice none 0 0, .slice qx kn qc]) (w.heap.size + 1) 26 #[.int .i64 0, .bool false, .int .i64 0, .string ⟨#[]⟩, .slice none 0 0, .slice none 0 0] := (sets_far _ _ _ _ (by omega)).trans hZ5
      have hF := Box.sets [.int .i64 5, .bool false, .int .i64 0, .string ⟨#[]⟩, .slice none 0 0, .slice qx kn qc] 0 hZ6
      have hb6 := Below.sets [.int .i64 5, .bool false, .int .i64 0, .string ⟨#[]⟩, .slice none 0 0, .slice qx kn qc] 0 (Below.sets [.int .i64 5, .bool false, .int .i64 0, .string ⟨#[]⟩, .slice none 0 0, .slice qx kn qc] 0 hbw5 (g := w.heap.size + 1 + 1) (by omega)) (g := w.heap.size + 1) (by omega)
      have hat6 : (V.ofMap KL).At (sets (sets w5 (w.heap.size + 1 + 1) 0 [.int .i64 5, .bool false, .int .i64 0, .string ⟨#[]⟩, .slice none 0 0, .slice qx kn qc]) (w.heap.size + 1) 0 [.int .i64 5, .bool false, .int .i64 0, .string ⟨#[]⟩, .slice none 0 0, .slice qx kn qc]) (fun q => w.heap.size ≤ q) (.slice none 0 0) (.slice qx kn qc) :=
        V.At.move (fun q hq _ => ⟨by omega, (sets_far _ _ _ _ (by omega)).trans (sets_far _ _ _ _ (by omega))⟩) (by rw [sets_size, sets_size]; exact Nat.le_refl _) _ (Nat.le_refl _) hat
      obtain ⟨⟨m0, m1, m2, m3, m4, m5⟩, g0, g1, g2, g3, g4, g5⟩ := hO5.six
      obtain ⟨⟨a0, a1, a2, a3, a4, a5⟩, _⟩ := Box.six (c0 := .int .i64 5) (c1 := .bool false) (c2 := .int .i64 0) (c3 := .string ⟨#[]⟩) (c4 := .slice none 0 0) (c5 := .slice qx kn qc) hO6
      obtain ⟨⟨z0, z1, z2, z3, z4, z5⟩, s0, s1, s2, s3, s4, s5⟩ := hZ6.six
      obtain ⟨⟨k0, k1, k2, k3, k4, k5⟩, _⟩ := Box.six (c0 := .int .i64 5) (c1 := .bool false) (c2 := .int .i64 0) (c3 := .string ⟨#[]⟩) (c4 := .slice none 0 0) (c5 := .slice qx kn qc) hF
      have HE := Lib.hid (And.intro hb6 hat6)
      clear hb6 hat6 hF hO6 hZ6 hZ5 hO5 hbw5 hb5 hat HZ HO HCL HB hkn hlt hK8 hOlt hlen
      simp only [sets, Nat.zero_add, Nat.reduceAdd] at a0 a1 a2 a3 a4 a5 z0 z1 z2 z3 z4 z5 s0 s1 s2 s3 s4 s5 k0 k1 k2 k3 k4 k5
      go_wp2
      refine bodyPost_ret (v := .agg #[.int .i64 5, .bool false, .int .i64 0, .string ⟨#[]⟩, .slice none 0 0, .slice qx kn qc]) (by simp [results, Try.results19, go_sem, k0, k1, k2, k3, k4, k5]) rfl ⟨_, _, rfl, ?_, HE.out.1⟩
      rw [← HKL.out]
      exact HE.out.2

theorem right_all : ∀ N, RightOK N
  | 0 => fun v d lv fv w hd _ _ => by
    cases v
    rw [V.dep] at hd
    omega
  | N + 1 => fun v d lv fv w hd hf his => by
    obtain ⟨k, y, n, t, l, f⟩ := v
    have hdl : ∀ x ∈ l, x.dep ≤ N := fun x hx => by have := dep_list (v := .mk k y n t l f) hx; omega
    have hdf : ∀ p ∈ f, p.2.dep ≤ N := fun p hp => by have := dep_fields (v := .mk k y n t l f) hp; omega
    obtain ⟨h1, h2, h3, h4, h5, h6⟩ := few_parts hf
    obtain ⟨hL, hF⟩ := V.at_iff.1 his
    obtain ⟨m, hm6, hm1, hm2⟩ := kind6 k
    by_cases hs : m < 4
    · exact rv_small k y n t l f lv fv m hm1 hm2 hs w
    · by_cases h4' : m = 4
      · subst h4'
        rw [V.rv, hm2, rvL_map]
        exact rv_list N (right_all N) k y n t l (d + 1) hdl (fewL_iff.1 h5) h2 lv fv hm1 w hL
      · obtain rfl : m = 5 := by omega
        rw [V.rv, hm2, rvF_map]
        exact rv_map N (right_all N) k y n t f (d + 1) hdf (fun p hp => (fewF_iff.1 h6 p hp).2) h3 lv fv hm1 w hF

/-- the law's Right, of whatever value of few parts -/
theorem lright_any (v : V) (d : Int) (hf : v.few d = true) (lv fv : Value) (w : World) (h : v.Is w lv fv) :
    Calls Try.prog 19 #[.agg #[.int .i64 v.kind, .bool v.yes, .int .i64 v.num, .string v.text, lv, fv]] w (RvP v.rv w) := right_all v.dep v d lv fv w (Nat.le_refl _) hf h

end Go.Proofs.Ytmodegncifopaaa
end
