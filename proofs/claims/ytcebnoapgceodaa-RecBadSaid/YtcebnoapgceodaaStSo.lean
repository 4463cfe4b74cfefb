/-
  store.Sorted: writes in order of their keys; of one key the last one.
-/
import Derived.Test.YtcebnoapgceodaaSB
import Derived.Test.YtcebnoapgceodaaTMapMC
import Derived.Test.YtcebnoapgceodaaSlsf
namespace Go.Proofs.Ytcebnoapgceodaa.sT
open Go.RowKit Go.Proofs.Ytcebnoapgceodaa.tC Go.Sort Go.ChangeMaps Go.MapKept Go.WideMaps

set_option linter.unusedVariables false
set_option linter.unusedSimpArgs false

instance : Inhabited Wr := ⟨⟨⟨#[]⟩, ⟨#[]⟩, false⟩⟩
def cfW (x y : Wr) : Int := cmpL x.key.data.toList y.key.data.toList
theorem ltW (x y : Wr) : ltOf cfW x y = decide (Lt x.key y.key) := by
  unfold ltOf cfW Lt
  by_cases h : x.key.data.toList < y.key.data.toList
  · rw [decide_eq_true h, decide_eq_true (cmpL_below.2 h)]
  · rw [decide_eq_false h, decide_eq_false fun h2 => h (cmpL_below.1 h2)]
theorem swoW : SWO (ltOf cfW) where
  irrefl x := by rw [ltW]; exact decide_eq_false (Lt.irrefl _)
  trans x y z h1 h2 := by
    rw [ltW] at h1 h2 ⊢
    exact decide_eq_true (Lt.trans (of_decide_eq_true h1) (of_decide_eq_true h2))
  ntrans x y z h1 h2 := by
    rw [ltW] at h1 h2 ⊢
    have k1 := of_decide_eq_false h1
    have k2 := of_decide_eq_false h2
    refine decide_eq_false fun h => ?_
    rcases key_tri x.key y.key with h3 | h3 | h3
    · exact k1 h3
    · rw [h3] at h; exact k2 h
    · exact k2 (h3.trans h)

/-- the comparison -/
theorem cmpWr_any (x y : Wr) (w : World) : Calls Try.prog 102 #[.agg (wrcells x).toArray, .agg (wrcells y).toArray] w fun e w' => e = .returned (.int .i64 (cfW x y)) ∧ w' = Sort.grow w #[.cells (wrcells x).toArray 48, .cells (wrcells y).toArray 48] := by
  obtain ⟨k, v, g⟩ := x
  obtain ⟨k', v', g'⟩ := y
  have hC : ∀ W, Calls Try.prog 103 #[.string k, .string k'] W fun e w' => e = .returned (.int .i64 (cmpL k.data.toList k'.data.toList)) ∧ w' = W := fun W => by
    have := Try.strings_Compare k k' W
    rwa [cmpB_eq] at this
  simp only [wrcells, cfW]
  generalize cmpL k.data.toList k'.data.toList = r at hC ⊢
  go_enter Try.func102, Try.ntmps102
  go_wp2_with fail
  refine (hC _).mono ?_
  rintro e w1 ⟨rfl, rfl⟩
  go_wp2
  go_ret
  exact ⟨rfl, by unfold Sort.grow World.alloc; simp only [World.mk.injEq, and_true]; apply Array.ext'; simp⟩
theorem cmpLaysWr (blk off size : Nat) (w : World) : Go.Proofs.CmpLays Try.prog 102 #[] wrcells 3 cfW blk off size w := by
  intro m os dk _ x y
  exact (cmpWr_any x y _).mono fun e w' h => ⟨h.1, 0, #[.cells (wrcells x).toArray 48, .cells (wrcells y).toArray 48], h.2⟩

theorem holds_row {B g c : Nat} {w : World} {l : List Wr} (h : RowK 48 3 B w (.slice (some ⟨g, 0, none⟩) l.length c) l.length (l.flatMap wrcells)) : HoldsK wrcells 3 w g 0 l.toArray := by
  obtain ⟨arr, hb, hs, hB, hn, hc, hq⟩ := h.parts
  intro t ht
  rw [size_flatK] at ht
  simp only [List.size_toArray] at ht
  have hi : t / 3 < l.length := by omega
  have hj : t % 3 < 3 := by omega
  have e : t = t / 3 * 3 + t % 3 := by omega
  rw [get_flatK _ _ _ _ (by simpa using ht), Nat.zero_add]
  refine ⟨?_, hb.free _⟩
  rw [hb.cell, hq t (by omega), e, wrow_get l _ hi _ hj]
  have e3 : (t / 3 * 3 + t % 3) / 3 = t / 3 := by omega
  have e4 : (t / 3 * 3 + t % 3) % 3 = t % 3 := by omega
  have hlen : (wrcells (l[t / 3])).length = 3 := rfl
  rw [e3, e4, getElem!_pos l.toArray _ (by simpa using hi)]
  rw [List.getElem?_eq_getElem (by rw [hlen]; exact hj), List.getElem_toArray]
  rw [getElem!_pos _ _ (by rw [hlen]; exact hj)]
  rfl
theorem row_sorted {B g c : Nat} {w : World} {l : List Wr} (h : RowK 48 3 B w (.slice (some ⟨g, 0, none⟩) l.length c) l.length (l.flatMap wrcells)) {d' : List Wr} (hd : d'.length = l.length) (n : Nat) (os : Array Obj) :
    RowK 48 3 B (sortWorldK wrcells 3 w g 0 n d'.toArray os) (.slice (some ⟨g, 0, none⟩) d'.length c) d'.length (d'.flatMap wrcells) ∧ w.grownBy (sortWorldK wrcells 3 w g 0 n d'.toArray os) (some g) := by
  obtain ⟨arr, hb, hs, hB, hn, hc, hq⟩ := h.parts
  have hg := hb.lt
  have hH := holds_row h
  have hH2 := Go.Proofs.holdsK_sortWorldK_c wrcells 3 w g 0 l.toArray d'.toArray n os hH hg (by simpa using hd)
  have hbox : Box (sortWorldK wrcells 3 w g 0 n d'.toArray os) g 48 (putCells id 0 (flatK wrcells 3 d'.toArray) arr) := by
    show ((w.heap.modify g (onCells (putCells id 0 (flatK wrcells 3 d'.toArray)))) ++ os)[g]? = _
    unfold Box at hb
    rw [Array.getElem?_append_left (by simpa using hg), Array.getElem?_modify, if_pos rfl, hb]
    rfl
  refine ⟨RowK.mk hbox (by simp [putCells, hs]) hB (by omega) hc (wrow_len d') (fun q hq2 => ?_) (wrow_one d'), ⟨rfl, rfl, rfl, ?_, fun k hk hne => ?_⟩⟩
  · have hi : q / 3 < d'.length := by omega
    have hj : q % 3 < 3 := by omega
    have hcell := (HoldsK.cell hH2 (i := q / 3) (c := q % 3) (by simpa using hi) hj).1
    rw [Nat.zero_add, show q / 3 * 3 + q % 3 = q by omega, hbox.cell] at hcell
    rw [hcell]
    have e := wrow_get d' _ hi _ hj
    rw [show q / 3 * 3 + q % 3 = q by omega] at e
    rw [e]
    have hlen : (wrcells (d'[q / 3])).length = 3 := rfl
    rw [getElem!_pos d'.toArray _ (by simpa using hi), List.getElem?_eq_getElem (by rw [hlen]; exact hj), List.getElem_toArray, getElem!_pos _ _ (by rw [hlen]; exact hj)]
  · show w.heap.size ≤ ((w.heap.modify g (onCells (putCells id 0 (flatK wrcells 3 d'.toArray)))) ++ os).size
    simp
  · show ((w.heap.modify g (onCells (putCells id 0 (flatK wrcells 3 d'.toArray)))) ++ os)[k]? = _
    have hgk : g ≠ k := fun e => hne (by rw [e])
    rw [Array.getElem?_append_left (by simpa using hk), Array.getElem?_modify, if_neg hgk]

/-- writes whose keys rise -/
def RiseW (l : List Wr) : Prop := l.Pairwise fun x y => Lt x.key y.key
theorem riseW_same {l : List Wr} (h : RiseW l) : ∀ x ∈ l, ∀ y ∈ l, x.key = y.key → x = y := by
  induction l with
  | nil => intro x hx; simp at hx
  | cons a r ih =>
    obtain ⟨h1, h2⟩ := List.pairwise_cons.1 h
    intro x hx y hy e
    rcases List.mem_cons.1 hx with ex | hx2
    · rcases List.mem_cons.1 hy with ey | hy2
      · rw [ex, ey]
      · exact absurd (by rw [← ex]; exact e) (lt_ne (h1 y hy2))
    · rcases List.mem_cons.1 hy with ey | hy2
      · exact absurd (by rw [← ey]; exact e.symm) (lt_ne (h1 x hx2))
      · exact ih h2 x hx2 y hy2 e

theorem snoc_ind {α : Type} {P : List α → Prop} (h0 : P []) (h1 : ∀ l x, P l → P (l ++ [x])) (l : List α) : P l := by
  have : ∀ r : List α, P r.reverse := fun r => by
    induction r with
    | nil => exact h0
    | cons x r ih => rw [List.reverse_cons]; exact h1 _ x ih
  have h := this l.reverse
  rwa [List.reverse_reverse] at h

/-- slices.SortFunc at writes whose keys are all unlike -/
theorem sortFunc_any {B g c : Nat} {w : World} {ps l : List Wr} (h : RowK 48 3 B w (.slice (some ⟨g, 0, none⟩) ps.length c) ps.length (ps.flatMap wrcells)) (hl : RiseW l) (hp : ps.Perm l) (hsz : ps.length ≤ 1000000) :
    Calls Try.prog 101 #[.slice (some ⟨g, 0, none⟩) ps.length c, .func (.func 102) #[] #[]] w fun e w' => e = .returned (.tuple #[]) ∧ RowK 48 3 B w' (.slice (some ⟨g, 0, none⟩) ps.length c) ps.length (l.flatMap wrcells) ∧ w.grownBy w' (some g) := by
  have hg : g < w.heap.size := (h.lt g rfl).2
  have := Go.Proofs.AnyQ.slices_SortFunc (P := Try.prog) (ρ := Try.sortWr_ren) Try.sortWr 3 Try.isAgg48 Try.sizeOf48 wrcells (fun _ => rfl) (fun x v hv => wrow_one [x] v (by simpa using hv)) cfW swoW 102 #[] g 0 c ps.toArray w (fun args w => by kernel_rfl) (cmpLaysWr _ _ _ _) (holds_row h) hg (by simp; omega)
  simp only [List.size_toArray] at this
  refine this.mono ?_
  rintro e w' ⟨rfl, d', n, os, hperm, hsort, rfl⟩
  obtain ⟨hs1, _, hs2⟩ := hperm
  simp only [List.size_toArray] at hs1 hs2
  obtain ⟨dl, rfl⟩ : ∃ dl : List Wr, d' = dl.toArray := ⟨d'.toList, by simp⟩
  simp only [List.size_toArray] at hs1
  have hp2 : dl.Perm ps := by
    have := hs2
    simp only [List.extract_toArray, List.toList_toArray] at this
    simpa [hs1, List.extract_eq_take_drop, List.take_of_length_le (show dl.length ≤ ps.length by omega)] using this
  have hpl : dl.Perm l := hp2.trans hp
  have hle : dl.Pairwise fun x y => ¬ Lt y.key x.key := by
    rw [List.pairwise_iff_getElem]
    intro i j hi hj hij
    have := hsort i j (Nat.zero_le _) hij (by omega)
    rw [ltW, getElem!_pos dl.toArray j (by simpa using hj), getElem!_pos dl.toArray i (by simpa using hi)] at this
    simpa using this
  have e : dl = l := by
    refine List.Perm.eq_of_pairwise (le := fun x y => ¬ Lt y.key x.key) (fun a b ha hb h1 h2 => ?_) hle (hl.imp fun h => not_lt_of h) hpl
    refine riseW_same hl a (hpl.mem_iff.1 ha) b hb ?_
    rcases key_tri a.key b.key with h3 | h3 | h3
    · exact absurd h3 h2
    · exact h3
    · exact absurd h3 h1
  subst e
  obtain ⟨k1, k2⟩ := row_sorted h hs1 n os
  exact ⟨rfl, by rw [hs1] at k1; exact k1, k2⟩

/-! ### plainly -/
def putWr (l : List Wr) (x : Wr) : List Wr := l.filter (fun y => decide (Lt y.key x.key)) ++ x :: l.filter (fun y => decide (Lt x.key y.key))
def sortW (ws : List Wr) : List Wr := ws.foldl putWr []
def wkv (x : Wr) : KV := (x.key, .agg (wrcells x).toArray)
theorem riseW_keys (l : List Wr) : RiseB (keysOf (l.map wkv)) ↔ RiseW l := by
  unfold RiseB keysOf RiseW
  rw [List.map_map, List.pairwise_map]
  rfl
theorem putWr_kv (l : List Wr) (x : Wr) : (putWr l x).map wkv = putK (l.map wkv) x.key (.agg (wrcells x).toArray) := by
  unfold putWr putK
  rw [List.map_append, List.map_cons, List.filter_map, List.filter_map]
  rfl
theorem putWr_rise {l : List Wr} (h : RiseW l) (x : Wr) : RiseW (putWr l x) := by
  unfold putWr RiseW
  refine List.pairwise_append.2 ⟨h.sublist List.filter_sublist, List.pairwise_cons.2 ⟨fun y hy => by simpa using (List.mem_filter.1 hy).2, h.sublist List.filter_sublist⟩, fun y hy z hz => ?_⟩
  have h1 : Lt y.key x.key := by simpa using (List.mem_filter.1 hy).2
  rcases List.mem_cons.1 hz with rfl | hz
  · exact h1
  · exact h1.trans (by simpa using (List.mem_filter.1 hz).2)
theorem sortW_snoc (ws : List Wr) (x : Wr) : sortW (ws ++ [x]) = putWr (sortW ws) x := by unfold sortW; rw [List.foldl_append]; rfl
theorem sortW_rise (ws : List Wr) : RiseW (sortW ws) := by
  refine snoc_ind (P := fun ws => RiseW (sortW ws)) List.Pairwise.nil (fun r x ih => ?_) ws
  rw [sortW_snoc]; exact putWr_rise ih x
theorem putWr_len (l : List Wr) (x : Wr) : (putWr l x).length ≤ l.length + 1 := by
  unfold putWr
  rw [List.length_append, List.length_cons]
  have := filters_len (fun y : Wr => decide (Lt y.key x.key)) (fun y => decide (Lt x.key y.key)) (fun y h1 h2 => Lt.irrefl _ ((show Lt y.key x.key by simpa using h1).trans (by simpa using h2))) l
  omega
theorem sortW_len (ws : List Wr) : (sortW ws).length ≤ ws.length := by
  refine snoc_ind (P := fun ws => (sortW ws).length ≤ ws.length) (by simp [sortW]) (fun r x ih => ?_) ws
  rw [sortW_snoc, List.length_append, List.length_singleton]
  have := putWr_len (sortW r) x
  omega
theorem sortW_mem {ws : List Wr} : ∀ x ∈ sortW ws, x ∈ ws := by
  refine snoc_ind (P := fun ws => ∀ x ∈ sortW ws, x ∈ ws) (fun x hx => by simp [sortW] at hx) (fun r x ih => ?_) ws
  rw [sortW_snoc]
  intro y hy
  unfold putWr at hy
  rcases List.mem_append.1 hy with hy | hy
  · exact List.mem_append.2 (.inl (ih y (List.mem_filter.1 hy).1))
  · rcases List.mem_cons.1 hy with rfl | hy
    · simp
    · exact List.mem_append.2 (.inl (ih y (List.mem_filter.1 hy).1))

/-- the writes that have come -/
def cameW (left : Lit → Bool) (l : List Wr) : List Wr := l.filter fun x => !left (.string x.key.data.toList)
theorem came_all {left : Lit → Bool} (h : ∀ kl, left kl = false) (l : List Wr) : cameW left l = l := List.filter_eq_self.2 fun x _ => by rw [h]; rfl
theorem came_none (l : List Wr) : cameW (Maps.has (dm (toF (l.map wkv)))) l = [] := by
  refine List.filter_eq_nil_iff.2 fun x hx => ?_
  rw [has_dm, get_map]
  have : getK (l.map wkv) x.key ≠ none := fun e => by
    unfold getK at e
    have := List.find?_eq_none.1 (Option.map_eq_none_iff.1 e) (wkv x) (List.mem_map_of_mem hx)
    exact this (by simp [wkv])
  cases hg : getK (l.map wkv) x.key with
  | none => exact absurd hg this
  | some v => simp
theorem came_step {left : Lit → Bool} : ∀ {l : List Wr}, RiseW l → ∀ {x : Wr}, x ∈ l → left (.string x.key.data.toList) = true →
    (cameW (fun y => left y && !y.sameKey (.string x.key.data.toList)) l).Perm (x :: cameW left l)
  | [], _, _, hx, _ => by simp at hx
  | y :: r, h, x, hx, hl => by
    obtain ⟨h1, h2⟩ := List.pairwise_cons.1 h
    have hsame : ∀ k : ByteArray, (Lit.string k.data.toList).sameKey (.string x.key.data.toList) = decide (k = x.key) := fun k => by
      show (k.data.toList == x.key.data.toList) = _
      by_cases e : k = x.key
      · subst e; simp
      · rw [decide_eq_false e]; exact Bool.eq_false_iff.2 fun e2 => e ((key8 _ _).1 (eq_of_beq e2))
    by_cases e : y.key = x.key
    · have hy : y = x := riseW_same h y List.mem_cons_self x hx e
      subst hy
      have e1 : cameW left (y :: r) = cameW left r := by unfold cameW; rw [List.filter_cons_of_neg (by simp [hl])]
      have e2 : cameW (fun z => left z && !z.sameKey (.string y.key.data.toList)) (y :: r) = y :: cameW (fun z => left z && !z.sameKey (.string y.key.data.toList)) r := by
        unfold cameW; rw [List.filter_cons_of_pos (by simp [hsame])]
      have e3 : cameW (fun z => left z && !z.sameKey (.string y.key.data.toList)) r = cameW left r := by
        unfold cameW
        refine List.filter_congr fun p hp => ?_
        have : p.key ≠ y.key := Ne.symm (lt_ne (h1 p hp))
        simp [hsame, this]
      rw [e1, e2, e3]
    · have hxr : x ∈ r := by
        rcases List.mem_cons.1 hx with h3 | h3
        · exact absurd (by rw [h3]) e
        · exact h3
      have ih := came_step (left := left) h2 hxr hl
      have hy : (left (.string y.key.data.toList) && !(Lit.string y.key.data.toList).sameKey (.string x.key.data.toList)) = left (.string y.key.data.toList) := by simp [hsame, e]
      unfold cameW at ih ⊢
      rw [List.filter_cons, List.filter_cons]
      simp only [hy] at ih ⊢
      cases left (.string y.key.data.toList) with
      | true => simpa using ih
      | false =>
        simp only [Bool.not_false, if_true]
        exact (List.Perm.cons y ih).trans (List.Perm.swap _ _ _)

/-- an append of one write to a row that is owned -/
theorem app_wr {B : Nat} (W : World) (v : Value) (ws : List Wr) (h : RowK 48 3 B W v ws.length (ws.flatMap wrcells)) (x : Wr) (p : Nat) (hp : W.heap[p]? = some (.cells (wrcells x).toArray 48)) (hl : ws.length ≤ 1000000) (hB : B ≤ W.heap.size) (ty : TypeId) :
    ∃ a c W', (Builtin.append_ #[22, 22] ty #[v, .slice (some ⟨p, 0, none⟩) 1 1]).run Try.prog W = .ok (.slice a (ws.length + 1) c) W' ∧ RowK 48 3 B W' (.slice a (ws.length + 1) c) (ws.length + 1) ((ws ++ [x]).flatMap wrcells) ∧ Up W v W' (.slice a (ws.length + 1) c) := by
  obtain ⟨i, hi, hz, hi1, hi2⟩ := info_parts infoWr
  have h1 : [x].flatMap wrcells = wrcells x := by simp
  obtain ⟨v', W', hr, ho, hu⟩ := run_app (P := Try.prog) W B 22 ty 48 i _ 3 40 Try.underlying22 hi hz hi1 hi2 rfl (by decide) v ws.length (ws.flatMap wrcells) h.1 ⟨p, 0, none⟩ 1 1 ([x].flatMap wrcells) (wrow_len [x]) (fun j u hj => by
    rw [h1] at hj
    exact World.news_of_block hp j u (by simpa using hj)) (wrow_one [x]) (by unfold maxLen; omega) (by omega) hB
  have hm : RowK 48 3 B W' v' (ws.length + 1) ((ws ++ [x]).flatMap wrcells) := ⟨by rw [List.flatMap_append]; exact ho, wrow_one _⟩
  obtain ⟨a, c, rfl, _⟩ := hm.form
  exact ⟨a, c, W', hr, hm, hu⟩

end Go.Proofs.Ytcebnoapgceodaa.sT
