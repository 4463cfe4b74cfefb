/-
  The library's insertion sort, at the fields of a map.
  SortStableFunc at no more than 20 fields: the insertion sort.
  slices.Clone at fields.
  val's OfList, OfText, OfBool.
  val's OfMap: the fields sorted, of each name the last one, and these cloned.
  val's OfMap, of one field or more.
  val's OfMap of no field.
  What OfMap keeps: names that rise.
  What OfMap keeps: of each name the last one that came.
  The law's Right: what it gives, plainly, and its contract at every value of few parts.
  The law's order of values, plainly; of what the law's Right makes it is val's.
  mailbaglaw02.order, of any two values.
  mailbaglaw02.order: the lists and the fields.
  The walk of mailbaglaw02.ValOrders.
  The walk of mailbaglaw02.ValOrders: all three values have few parts, or one of them has not.
  The walk of mailbaglaw02.ValOrders: all three values have few parts.
-/
import Derived.Shelf.SlSortCmp.InsertionK
import Derived.Test.YtacphlceggbfcaaVClone2
import Derived.Test.YtacphlceggbfcaaIsRow
import Derived.WalkSpells
import Derived.Lib.SliceRun
import Derived.Outline
import Derived.ArgAppend
import Derived.Deep.QuietTactic
import Derived.BigQuiet
import Derived.Sort.LotA
import Derived.Test.YtacphlceggbfcaaRowB
import Derived.Test.YtacphlceggbfcaaValRow
import Derived.Test.YtacphlceggbfcaaValFld
import Derived.Test.YtacphlceggbfcaaVFew
import Derived.Test.YtacphlceggbfcaaVClone
import Derived.Deep.RegionWith
import Derived.Test.YtacphlceggbfcaaVCmpLaws
import Derived.Test.YtacphlceggbfcaaValHead
import Derived.Deep.DeepCutAuto
section
namespace Go.Proofs.Ytacphlceggbfcaa
open Go.RowKit Go.Sort

def layIns_ren : Go.Shelf.Ren := ⟨fun | 20 => 100 | n => n, fun | 22 => 24 | 24 => 68 | 25 => 76 | 0 => 0 | 3 => 3 | 4 => 4 | n => n, fun | n => n⟩
theorem layIns : Go.Proofs.SlLaysF0.n20 Try.prog layIns_ren := {
  mixed := by kernel_rfl
  f20 := ⟨Try.f100.name, by kernel_rfl, Try.func100.trans (congrArg some (by kernel_rfl))⟩
  t0 := Try.underlying0
  a0 := Try.isAgg0
  z0 := Try.sizeOf0
  v0 := Try.zeroValue0
  t3 := Try.underlying3
  a3 := Try.isAgg3
  z3 := Try.sizeOf3
  v3 := Try.zeroValue3
  t4 := Try.underlying4
  a4 := Try.isAgg4
  z4 := Try.sizeOf4
  v4 := Try.zeroValue4
  t22 := Try.underlying24
  a22 := Try.isAgg24
  z22 := Try.sizeOf24
  v22 := Try.zeroValue24
  t25 := Try.underlying76
  a25 := Try.isAgg76
  z25 := Try.sizeOf76
  v25 := Try.zeroValue76
}

/-- a field as it lies in memory -/
structure FC where
  nm : ByteArray
  v : V
  a : Option Addr
  c : Nat
  b : Option Addr
  d : Nat
instance : Inhabited FC := ⟨⟨ByteArray.empty, V.null, none, 0, none, 0⟩⟩

def FC.enc (x : FC) : List Value := [.string x.nm, .int .i64 x.v.kind, .bool x.v.yes, .int .i64 x.v.num, .string x.v.text, .slice x.a x.v.list.length x.c, .slice x.b x.v.fields.length x.d]
def FC.cf (x y : FC) : Int := cmpL x.nm.data.toList y.nm.data.toList

theorem FC.enc7 (x : FC) : x.enc.length = 7 := rfl
theorem FC.one (x : FC) : ∀ v ∈ x.enc, v.oneCell' = true := by
  intro v hv
  simp only [FC.enc, List.mem_cons, List.not_mem_nil, or_false] at hv
  rcases hv with rfl | rfl | rfl | rfl | rfl | rfl | rfl <;> rfl

theorem names_same (x y : FC) (w : World) :
    Calls Try.prog 72 #[.agg x.enc.toArray, .agg y.enc.toArray] w fun e w' => e = .returned (.int .i64 (FC.cf x y)) ∧ w' = Sort.grow w #[.cells x.enc.toArray 68, .cells y.enc.toArray 68] := by
  obtain ⟨nm, v, a, c, b, d⟩ := x
  obtain ⟨nm', v', a', c', b', d'⟩ := y
  simp only [FC.enc, FC.cf]
  go_enter Try.func72, Try.ntmps72
  go_wp2_with fail
  refine (cmpText_any nm nm' _).mono ?_
  rintro e w1 ⟨rfl, rfl⟩
  go_wp2
  go_ret
  exact ⟨rfl, by unfold Sort.grow World.alloc; simp only [World.mk.injEq, and_true]; apply Array.ext'; simp⟩

theorem cmp_lays (blk off size : Nat) (w : World) : CmpLays Try.prog 72 #[] FC.enc 7 FC.cf blk off size w := by
  intro m os dk _ x y
  exact (names_same x y _).mono fun e w' h => ⟨h.1, 0, #[.cells x.enc.toArray 68, .cells y.enc.toArray 68], h.2⟩

theorem insert_any (d : Array FC) (a b cap g : Nat) (w : World) (hH : HoldsK FC.enc 7 w g 0 d) (hg : g < w.heap.size) (hab : a ≤ b) (hb : b ≤ d.size) (hsz : d.size ≤ 1000) :
    Calls Try.prog 100 #[.slice (some ⟨g, 0, none⟩) d.size cap, .int .i64 a, .int .i64 b, .func (.func 72) #[] #[]] w fun e w' =>
      e = .returned (.tuple #[]) ∧ ∃ n os, w' = sortWorldK FC.enc 7 w g 0 n (Sort.insertionSort (ltOf FC.cf) d a b) os :=
  AnyQ.insertionSortCmpFunc (P := Try.prog) (ρ := layIns_ren) layIns 7 Try.isAgg68 Try.sizeOf68 FC.enc FC.enc7 FC.one FC.cf 72 #[] g 0 cap a b d w (fun args w => by kernel_rfl) (cmp_lays _ _ _ _) hH hg hab hb (by omega)

end Go.Proofs.Ytacphlceggbfcaa
end

section
namespace Go.Proofs.Ytacphlceggbfcaa
open Go.RowKit Go.Sort

/-- what the sort leaves: the row holds d', the block has its size and what lies behind the row, and all else is as it was -/
def SortW (d' : Array FC) (g : Nat) (w w' : World) : Prop :=
  (∀ T arr, Box w g T arr → ∃ arr', Box w' g T arr' ∧ arr'.size = arr.size ∧ ∀ p, d'.size * 7 ≤ p → arr'[p]? = arr[p]?) ∧ HoldsK FC.enc 7 w' g 0 d' ∧ w.grownBy w' (some g)

theorem SortW.trans {d1 d2 : Array FC} {g : Nat} {w w1 w2 : World} (h : SortW d1 g w w1) (k : SortW d2 g w1 w2) (hs : d2.size = d1.size) : SortW d2 g w w2 := by
  obtain ⟨h1, h2, h3⟩ := h
  obtain ⟨k1, k2, k3⟩ := k
  refine ⟨fun T arr hB => ?_, k2, grown_trans h3 k3 (.inl rfl)⟩
  obtain ⟨a1, b1, c1, e1⟩ := h1 T arr hB
  obtain ⟨a2, b2, c2, e2⟩ := k1 T a1 b1
  exact ⟨a2, b2, c2.trans c1, fun p hp => (e2 p hp).trans (e1 p (by omega))⟩

theorem sortW_of {d d' : Array FC} {g n : Nat} {w : World} {os : Array Obj} (hH : HoldsK FC.enc 7 w g 0 d) (hg : g < w.heap.size) (hs : d'.size = d.size) : SortW d' g w (sortWorldK FC.enc 7 w g 0 n d' os) := by
  refine ⟨fun T arr hB => ?_, holdsK_sortWorldK_c FC.enc 7 w g 0 d d' n os hH hg hs, ?_⟩
  · refine ⟨putCells id 0 (flatK FC.enc 7 d') arr, ?_, by simp [putCells], fun p hp => ?_⟩
    · unfold Box at hB ⊢
      show ((w.heap.modify g (onCells (putCells id 0 (flatK FC.enc 7 d')))) ++ os)[g]? = _
      rw [Array.getElem?_append_left (by simpa using hg), Array.getElem?_modify, if_pos rfl, hB]
      rfl
    · unfold putCells
      rw [Array.getElem?_mapIdx]
      have hn : ¬ (0 ≤ p ∧ p < 0 + (flatK FC.enc 7 d').size) := by rw [size_flatK]; omega
      cases arr[p]? with
      | none => rfl
      | some x => simp only [Option.map_some, if_neg hn]
  · refine ⟨rfl, rfl, rfl, ?_, fun k hk hne => ?_⟩
    · show w.heap.size ≤ ((w.heap.modify g (onCells (putCells id 0 (flatK FC.enc 7 d')))) ++ os).size
      simp
    · show ((w.heap.modify g (onCells (putCells id 0 (flatK FC.enc 7 d')))) ++ os)[k]? = _
      have hgk : g ≠ k := fun e => hne (by rw [e])
      rw [Array.getElem?_append_left (by simpa using hk), Array.getElem?_modify, if_neg hgk]

def SortedP (d : Array FC) (g : Nat) (w : World) (e : Ending) (w' : World) : Prop :=
  e = .returned (.tuple #[]) ∧ SortW (Sort.insertionSort (ltOf FC.cf) d 0 d.size) g w w'

theorem ins_size (lt : FC → FC → Bool) : ∀ (a j : Nat) (d : Array FC), (insInner lt a j d).size = d.size
  | a, 0, d => rfl
  | a, j + 1, d => by
    rw [insInner]
    split
    · rw [ins_size lt a j]; simp [swp]
    · rfl
theorem insOuter_size (lt : FC → FC → Bool) (a b : Nat) : ∀ (k i : Nat) (d : Array FC), b - i ≤ k → (insOuter lt a b i d).size = d.size
  | 0, i, d, h => by rw [insOuter, if_neg (by omega)]
  | k + 1, i, d, h => by
    rw [insOuter]
    split
    · rw [insOuter_size lt a b k (i + 1) _ (by omega), ins_size]
    · rfl
theorem sort_size (lt : FC → FC → Bool) (d : Array FC) (a b : Nat) : (Sort.insertionSort lt d a b).size = d.size := insOuter_size lt a b _ _ d (Nat.le_refl _)
theorem sort_none (lt : FC → FC → Bool) (d : Array FC) (b : Nat) : Sort.insertionSort lt d b b = d := by
  rw [Sort.insertionSort, insOuter, if_neg (by omega)]

set_option maxHeartbeats 2000000 in
theorem stable_any (d : Array FC) (hd : d.size ≤ 20) (cap g : Nat) (w : World) (hH : HoldsK FC.enc 7 w g 0 d) (hg : g < w.heap.size) :
    Calls Try.prog 93 #[.slice (some ⟨g, 0, none⟩) d.size cap, .int .i64 d.size, .func (.func 72) #[] #[]] w (SortedP d g w) := by
  have hss := sort_size (ltOf FC.cf) d 0 d.size
  have hw : ∀ w', (∃ n os, w' = sortWorldK FC.enc 7 w g 0 n (Sort.insertionSort (ltOf FC.cf) d 0 d.size) os) → SortW (Sort.insertionSort (ltOf FC.cf) d 0 d.size) g w w' := fun w' ⟨n, os, h⟩ => by
    rw [h]; exact sortW_of hH hg hss
  have hins := insert_any d 0 d.size cap g w hH hg (Nat.zero_le _) (Nat.le_refl _) (by omega)
  generalize hD : Sort.insertionSort (ltOf FC.cf) d 0 d.size = d' at *
  have HW := Lib.hid hw
  have HD := Lib.hid hD
  have HS := Lib.hid hss
  unfold SortedP
  rw [HD.out]
  by_cases h20 : d.size = 20
  · -- one block of 20, and nothing behind it
    have H20 := Lib.hid h20
    have hrest : ∀ w', SortW d' g w w' → Calls Try.prog 100 #[.slice (some ⟨g, 0, none⟩) 20 cap, .int .i64 20, .int .i64 20, .func (.func 72) #[] #[]] w' fun e w2 => e = .returned (.tuple #[]) ∧ SortW d' g w w2 := fun w' hq => by
      have h1 := insert_any d' 20 20 cap g w' hq.2.1 (Nat.lt_of_lt_of_le hg hq.2.2.size) (Nat.le_refl _) (by omega) (by omega)
      rw [show d'.size = 20 by omega] at h1
      refine h1.mono fun e w2 h2 => ⟨h2.1, ?_⟩
      obtain ⟨_, n, os, h3⟩ := h2
      rw [sort_none] at h3
      rw [h3]
      exact hq.trans (sortW_of hq.2.1 (Nat.lt_of_lt_of_le hg hq.2.2.size) rfl) rfl
    rw [h20] at hins ⊢
    have HR := Lib.hid hrest
    clear hH h20 hrest hd hss hD hw
    go_enter Try.func93, Try.ntmps93
    go_wp2_with fail
    refine wp_loop_rounds 2 ?_
    rw [rounds_succ]
    go_wp2_with fail
    refine hins.mono ?_
    rintro e w1 ⟨rfl, hw1⟩
    have HW1 := Lib.hid (HW.out w1 hw1)
    clear hw1 hins
    go_wp2_with fail
    rw [rounds_succ]
    go_wp2_with fail
    refine (HR.out w1 HW1.out).mono ?_
    rintro e w2 ⟨rfl, hw2⟩
    have HW2 := Lib.hid hw2
    clear hw2
    go_wp2_with fail
    refine wp_loop_rounds 1 ?_
    rw [rounds_succ]
    go_wp2
    go_end0
    exact ⟨rfl, HW2.out⟩
  · have h1 : ¬ (20 : Int) ≤ (d.size : Int) := by omega
    have h2 : ¬ (20 : Int) < (d.size : Int) := by omega
    clear hH hd hss hD hw h20
    go_enter Try.func93, Try.ntmps93
    go_wp2_with fail
    refine wp_loop_rounds 1 ?_
    rw [rounds_succ]
    go_wp2_with fail
    refine hins.mono ?_
    rintro e w1 ⟨rfl, hw1⟩
    have HW1 := Lib.hid (HW.out w1 hw1)
    clear hw1 hins
    go_wp2_with fail
    refine wp_loop_rounds 1 ?_
    rw [rounds_succ]
    go_wp2
    go_end0
    exact ⟨rfl, HW1.out⟩

theorem sort_any (d : Array FC) (hd : d.size ≤ 20) (cap g : Nat) (w : World) (hH : HoldsK FC.enc 7 w g 0 d) (hg : g < w.heap.size) :
    Calls Try.prog 71 #[.slice (some ⟨g, 0, none⟩) d.size cap, .func (.func 72) #[] #[]] w (SortedP d g w) := by
  have hcall := stable_any d hd cap g w hH hg
  clear hH
  go_enter Try.func71, Try.ntmps71
  go_wp2_with fail
  refine hcall.mono ?_
  rintro e w1 ⟨rfl, hw1⟩
  have HW1 := Lib.hid hw1
  clear hw1 hcall
  go_wp2
  go_end0
  exact ⟨rfl, HW1.out⟩

end Go.Proofs.Ytacphlceggbfcaa
end

section
namespace Go.Proofs.Ytacphlceggbfcaa
open Go.RowKit Go.Sort

def FC.fd (x : FC) : Fd := (x.nm, x.v)
/-- what the fields lead to lies in blocks of S -/
def RepAt (w : World) (S : Nat → Prop) (d : Array FC) : Prop := ∀ i (h : i < d.size), (d[i]).v.At w S (.slice (d[i]).a (d[i]).v.list.length (d[i]).c) (.slice (d[i]).b (d[i]).v.fields.length (d[i]).d)

/-- the fields of a slice, as they lie there -/
theorem fields_lie {w : World} {fs : List Fd} {fv : Value} (h : FAt w All fs fv) : ∃ (a : Option Addr) (c : Nat) (d : Array FC), fv = .slice a d.size c ∧ fs = (d.map FC.fd).toList ∧ RepAt w All d ∧
    (d.size = 0 ∨ ∃ b off, a = some ⟨b, off, none⟩ ∧ b < w.heap.size ∧ ∀ i (h : i < d.size), InAt w b (off + i * 7) (d[i]).enc) := by
  obtain ⟨a, c, rfl, _, _, hc⟩ := h
  rcases hc with rfl | ⟨b, off, rfl, _, hb, hC⟩
  · exact ⟨a, c, #[], rfl, by simp, fun i hi => by simp at hi, .inl rfl⟩
  · obtain ⟨l, hl, hp⟩ := choose_lists (p := fun i (x : FC) => ∃ (hi : i < fs.length), fs[i] = FC.fd x ∧ InAt w b (off + i * 7) x.enc ∧ x.v.At w All (.slice x.a x.v.list.length x.c) (.slice x.b x.v.fields.length x.d)) fs.length fun i hi => by
      obtain ⟨lv, fv, h1, h2⟩ := hC.get hi
      obtain ⟨⟨ax, cx, rfl⟩, ⟨ay, cy, rfl⟩, _, _⟩ := h2.is.len
      exact ⟨⟨(fs[i]).1, (fs[i]).2, ax, cx, ay, cy⟩, hi, rfl, h1, h2⟩
    refine ⟨some ⟨b, off, none⟩, c, l.toArray, by simp [hl], ?_, fun i hi => ?_, .inr ⟨b, off, rfl, hb, fun i hi => ?_⟩⟩
    · apply List.ext_getElem
      · simp [hl]
      · intro i h1 h2
        obtain ⟨_, h3, _⟩ := hp i (by rw [hl]; exact h1)
        simpa using h3
    · obtain ⟨_, _, _, h4⟩ := hp i (by simpa using hi)
      simpa using h4
    · obtain ⟨_, _, h3, _⟩ := hp i (by simpa using hi)
      simpa using h3

theorem flat_at (d : Array FC) (j : Nat) (h : j < d.size * 7) : ∃ (i q : Nat) (hi : i < d.size), j = i * 7 + q ∧ q < 7 ∧ (flatK FC.enc 7 d)[j]? = ((d[i]).enc)[q]? := by
  refine ⟨j / 7, j % 7, by omega, by omega, by omega, ?_⟩
  have hi : j / 7 < d.size := by omega
  have e := get_flatK FC.enc 7 d j h
  rw [Array.getElem?_eq_getElem (by rw [size_flatK]; exact h)]
  rw [getElem!_pos _ j (by rw [size_flatK]; exact h), getElem!_pos d (j / 7) hi] at e
  rw [e, List.getElem?_eq_getElem (by rw [FC.enc7]; omega), getElem!_pos _ (j % 7) (by rw [FC.enc7]; omega)]

theorem flat_one (d : Array FC) : ∀ u ∈ (flatK FC.enc 7 d).toList, u.oneCell' = true := by
  intro u hu
  obtain ⟨j, hj, rfl⟩ := List.getElem_of_mem hu
  have hj' : j < d.size * 7 := by simpa using hj
  obtain ⟨i, q, hi, _, hq, e⟩ := flat_at d j hj'
  have e2 : (flatK FC.enc 7 d)[j]? = some ((flatK FC.enc 7 d).toList[j]) := by rw [Array.getElem?_eq_getElem (by simpa using hj')]; simp
  rw [e2] at e
  exact FC.one (d[i]) _ (List.mem_of_getElem? e.symm)

/-- what a slice of fields that the call owns holds -/
theorem holds_own {w : World} {g : Nat} {arr : Array Value} {d : Array FC} (hB : Box w g 68 arr) (h : ∀ j, j < d.size * 7 → arr[j]? = (flatK FC.enc 7 d)[j]?) : HoldsK FC.enc 7 w g 0 d := by
  intro j hj
  have hj' : j < d.size * 7 := by simpa using hj
  refine ⟨?_, by rw [Nat.zero_add]; exact hB.free j⟩
  rw [Nat.zero_add, hB.cell, h j hj', Array.getElem?_eq_getElem (by simpa using hj'), getElem!_pos _ j (by simpa using hj')]
  rfl

theorem wpList_app_fs {ops : Array Oper} {rest : List Oper} {o : Oper} {a : Act} {w : World} {Q : Exit → Act → World → Prop} (hgd : o.guard = none) (s x : Operand)
    (ho : o.op = .call { callee := .builtin .append, args := #[s, x], argTypes := #[24, 24] })
    (B : Nat) (v : Value) (hs : a.eval s = v) (hown : w.ownsRow B 68 7 v 0 []) (b off c : Nat) (d : Array FC) (hd0 : 0 < d.size)
    (hx : a.eval x = .slice (some ⟨b, off, none⟩) d.size c) (hin : ∀ i (h : i < d.size), InAt w b (off + i * 7) (d[i]).enc) (hm : d.size ≤ 1000) (hB : B ≤ w.heap.size)
    (h : ∀ g cap arr w', Box w' g 68 arr → arr.size = cap * 7 → d.size ≤ cap → cap ≤ maxLen → HoldsK FC.enc 7 w' g 0 d → B ≤ g → Below B w w' → wpList Try.prog ops Q rest (a.put o.dst (.slice (some ⟨g, 0, none⟩) d.size cap)) w') :
    wpList Try.prog ops Q (o :: rest) a w := by
  obtain ⟨i, hi, hz, hi1, hi2⟩ := info_parts infoF
  refine wpList_plain hgd fun K hK => ?_
  obtain ⟨v', w', hr, ho', hu⟩ := run_app (P := Try.prog) w B 24 o.type 68 i _ 7 104 Try.underlying24 hi hz hi1 hi2 rfl (by decide) v 0 [] hown ⟨b, off, none⟩ d.size c (flatK FC.enc 7 d).toList (by simp)
    (fun j u hj => by
      have hjl : j < d.size * 7 := by have := (List.getElem?_eq_some_iff.1 hj).1; simpa using this
      obtain ⟨p, q, hp, rfl, _, e⟩ := flat_at d j hjl
      have e1 : ((⟨b, off, none⟩ : Addr).add (p * 7 + q)) = ⟨b, off + p * 7 + q, none⟩ := by
        have hn : ∀ n : Nat, (⟨b, off, none⟩ : Addr).add n = ⟨b, off + n, none⟩ := fun n => by unfold Addr.add; by_cases h0 : n = 0 <;> simp [h0]
        rw [hn, Nat.add_assoc]
      rw [e1]
      refine hin p hp q u ?_
      rw [← e]
      simpa using hj)
    (flat_one d) (by unfold maxLen; omega) (by omega) hB
  unfold Oper.wp execOp
  simp only [ho, resolve, invoke, builtin, Sem.run_bind, Sem.run_pure, Result.andThen_ok, List.map_toArray, List.map_cons, List.map_nil, hs, hx, hr]
  have hb : Below B w w' := (Below.refl B w).grown hu.1 hB fun k hk => (World.ownsRow.lt hown k hk).1
  rw [Nat.zero_add, List.nil_append] at ho'
  rcases ho'.2 with ⟨_, h0⟩ | ⟨g, cap, cur, rfl, h1, h2, h3, h4, h5, h6⟩
  · omega
  · refine hK _ _ (h g cap cur w' h2 h5 h3 h4 (holds_own h2 fun j hj => ?_) h1 hb)
    have e : cur.toList[j]? = (cur.toList.take (d.size * 7))[j]? := by rw [List.getElem?_take_of_lt hj]
    rw [← Array.getElem?_toList, e, h6, Array.getElem?_toList]

/-- a clone of some fields: a row of the call's own -/
def FCloneP (d : Array FC) (w : World) (e : Ending) (w' : World) : Prop :=
  ∃ g cap arr, e = .returned (.slice (some ⟨g, 0, none⟩) d.size cap) ∧ Box w' g 68 arr ∧ arr.size = cap * 7 ∧ d.size ≤ cap ∧ cap ≤ maxLen ∧ HoldsK FC.enc 7 w' g 0 d ∧ w.heap.size ≤ g ∧ Below w.heap.size w w'

set_option maxHeartbeats 1000000 in
set_option maxRecDepth 100000 in
theorem fclone_any (b off c : Nat) (d : Array FC) (hd0 : 0 < d.size) (hd : d.size ≤ 1000) (w : World) (hb : b < w.heap.size) (hin : ∀ i (h : i < d.size), InAt w b (off + i * 7) (d[i]).enc) :
    Calls Try.prog 70 #[.slice (some ⟨b, off, none⟩) d.size c] w (FCloneP d w) := by
  have hown := World.ownsRow_lit (base := w.heap.size) (e := 68) (size := 7) w #[] 0 (Nat.le_refl _) (by unfold maxLen; omega) rfl
  have hb0 : Below w.heap.size w (w.alloc (.cells #[] 68)) := (Below.refl _ w).alloc (Nat.le_refl _) _
  have HIN := Lib.hid (show ∀ i (h : i < d.size), InAt (w.alloc (.cells #[] 68)) b (off + i * 7) (d[i]).enc from fun i h => (hin i h).keep (Below.heap_alloc w _ b hb))
  have HB := Lib.hid (And.intro hown hb0)
  have heq := fun w' => Lib.run_eql_slice_nil (P := Try.prog) w' 24 68 (some ⟨b, off, none⟩) d.size c 0 0 Try.underlying24
  clear hin hown hb0
  go_enter Try.func70, Try.ntmps70
  go_wp2_with (at_builtin; refine Mark.out ?_)
  refine Mark.mk ?_
  refine wpList_app_fs rfl (.tmp 5) (.tmp 6) rfl w.heap.size (.slice (some ⟨w.heap.size, 0, none⟩) 0 0) rfl HB.out.1 b off c d hd0 rfl HIN.out hd (by simp) ?_
  intro g cap arr w' h1 h2 h3 h4 h5 h6 h7
  have HH := Lib.hid (And.intro h1 (And.intro h2 (And.intro h3 (And.intro h4 (And.intro h5 (And.intro h6 (HB.out.2.trans h7)))))))
  clear h1 h2 h3 h4 h5 h6 h7
  go_wp2
  go_ret
  exact ⟨g, cap, arr, rfl, HH.out⟩

end Go.Proofs.Ytacphlceggbfcaa
end

section
namespace Go.Proofs.Ytacphlceggbfcaa
open Go.RowKit

def OfListP (l : List V) (w : World) (e : Ending) (w' : World) : Prop :=
  ∃ lv, e = .returned (.agg #[.int .i64 4, .bool false, .int .i64 0, .string ⟨#[]⟩, lv, .slice none 0 0]) ∧ (V.ofList l).At w' (fun q => w.heap.size ≤ q) lv (.slice none 0 0) ∧ Below w.heap.size w w'

set_option maxHeartbeats 1000000 in
set_option maxRecDepth 100000 in
theorem ofList_any (l : List V) (hsm : ∀ x ∈ l, x.sm) (hlen : l.length ≤ 100000) (lv : Value) (w : World) (hl : LAt w All l lv) :
    Calls Try.prog 17 #[lv] w (OfListP l w) := by
  have hb0 : Below w.heap.size w (w.alloc (.cells #[.int .i64 0, .bool false, .int .i64 0, .string ⟨#[]⟩, .slice none 0 0, .slice none 0 0] 26)) := (Below.refl _ w).alloc (Nat.le_refl _) _
  have hZ : Box (w.alloc (.cells #[.int .i64 0, .bool false, .int .i64 0, .string ⟨#[]⟩, .slice none 0 0, .slice none 0 0] 26)) w.heap.size 26 #[.int .i64 0, .bool false, .int .i64 0, .string ⟨#[]⟩, .slice none 0 0, .slice none 0 0] := Box.new w _ _
  have hz0 : (w.alloc (.cells #[.int .i64 0, .bool false, .int .i64 0, .string ⟨#[]⟩, .slice none 0 0, .slice none 0 0] 26)).heap.size = w.heap.size + 1 := by simp
  obtain ⟨a, c, rfl, _, _, _⟩ := id hl
  have hcl := cloneList_any (depL l) (clone_all _) l (fun x hx => depL_mem hx) hsm hlen _ _ (LAt.move (fun b _ hlt => ⟨trivial, hb0.block b hlt⟩) hb0.size hl)
  have HB := Lib.hid (And.intro hb0 (And.intro hZ hz0))
  clear hl hsm hb0 hZ hz0
  go_enter Try.func17, Try.ntmps17
  go_wp2_with fail
  refine hcl.mono ?_
  rintro e w1 ⟨lv', rfl, hL1, hb1⟩
  obtain ⟨qx, qc, rfl, _, _, _⟩ := id hL1
  obtain ⟨hb0, hZ, hz0⟩ := HB.out
  rw [hz0] at hL1 hb1
  have hZ1 : Box w1 w.heap.size 26 #[.int .i64 0, .bool false, .int .i64 0, .string ⟨#[]⟩, .slice none 0 0, .slice none 0 0] := (hb1.block _ (by omega)).trans hZ
  have hb2 : Below w.heap.size w w1 := hb0.trans (hb1.mono (by omega))
  have hF := Box.sets [.int .i64 4, .bool false, .int .i64 0, .string ⟨#[]⟩, .slice qx l.length qc, .slice none 0 0] 0 hZ1
  obtain ⟨⟨k0, k1, k2, k3, k4, k5⟩, _⟩ := Box.six (c0 := .int .i64 4) (c1 := .bool false) (c2 := .int .i64 0) (c3 := .string ⟨#[]⟩) (c4 := .slice qx l.length qc) (c5 := .slice none 0 0) hF
  simp only [sets, Nat.zero_add, Nat.reduceAdd] at k0 k1 k2 k3 k4 k5
  have hb5 := Below.sets [.int .i64 4, .bool false, .int .i64 0, .string ⟨#[]⟩, .slice qx l.length qc, .slice none 0 0] 0 hb2 (g := w.heap.size) (Nat.le_refl _)
  have hat5 : (V.ofList l).At (sets w1 w.heap.size 0 [.int .i64 4, .bool false, .int .i64 0, .string ⟨#[]⟩, .slice qx l.length qc, .slice none 0 0]) (fun q => w.heap.size ≤ q) (.slice qx l.length qc) (.slice none 0 0) :=
    V.at_iff.2 ⟨LAt.move (fun b hb _ => ⟨by omega, sets_far _ _ _ _ (by omega)⟩) (by rw [sets_size]; exact Nat.le_refl _) hL1, none, 0, rfl, Nat.le_refl _, by unfold maxLen; omega, .inl rfl⟩
  obtain ⟨⟨z0, z1, z2, z3, z4, z5⟩, s0, s1, s2, s3, s4, s5⟩ := hZ1.six
  clear hF hL1 hb1 hb0 hZ hz0 hb2 hcl hZ1
  go_wp2
  refine bodyPost_ret (v := .agg #[.int .i64 4, .bool false, .int .i64 0, .string ⟨#[]⟩, .slice qx l.length qc, .slice none 0 0]) (by simp [results, Try.results17, go_sem, k0, k1, k2, k3, k4, k5]) rfl ⟨_, rfl, hat5, hb5⟩

/-- a list of one value that lies in a block of its own -/
theorem one_at {w : World} {S : Nat → Prop} {g : Nat} {v : V} {lv fv : Value} {t : TypeId} {c : Nat} (hB : Box w g t (v.cells lv fv).toArray) (hS : S g) (hc : 1 ≤ c) (hc2 : c ≤ 100) (hat : v.At w S lv fv) : LAt w S [v] (.slice (some ⟨g, 0, none⟩) 1 c) := by
  refine ⟨some ⟨g, 0, none⟩, c, rfl, hc, by unfold maxLen; omega, .inr ⟨g, 0, rfl, hS, hB.lt, ?_⟩⟩
  rw [LCells]
  refine ⟨⟨lv, fv, fun q u hq => ?_, hat⟩, by rw [LCells]; trivial⟩
  rw [Nat.zero_add, hB.cell]
  simpa using hq

end Go.Proofs.Ytacphlceggbfcaa
end

section
namespace Go.Proofs.Ytacphlceggbfcaa
open Go.RowKit Go.Sort

theorem setCells_sets (g : Nat) : ∀ (cs : List Value) (w : World) (b : Nat), w.setCells g b cs = sets w g b cs
  | [], _, _ => rfl
  | _ :: cs, _, b => setCells_sets g cs _ (b + 1)

/-- one field appended where there is room -/
theorem wpList_app_keep (W : World) (H : Nat) (hH : W.heap.size = H) {ops : Array Oper} {rest : List Oper} {o : Oper} {a : Act} {Q : Exit → Act → World → Prop} (hgd : o.guard = none) (s x : Operand)
    (ho : o.op = .call { callee := .builtin .append, args := #[s, x], argTypes := #[24, 24] })
    (g k cap : Nat) (hs : a.eval s = .slice (some ⟨g, 0, none⟩) k cap) (arr : Array Value) (hB : Box W g 68 arr) (hsz : arr.size = cap * 7) (hk : k < cap) (f : FC)
    (cs : Array Value) (hcs : cs = f.enc.toArray) (c : Nat) (hx : a.eval x = .slice (some ⟨H, 0, none⟩) 1 c)
    (h : wpList Try.prog ops Q rest (a.put o.dst (.slice (some ⟨g, 0, none⟩) (k + 1) cap)) (sets (W.alloc (.cells cs 68)) g (k * 7) f.enc)) :
    wpList Try.prog ops Q (o :: rest) a (W.alloc (.cells cs 68)) := by
  subst hH hcs
  obtain ⟨i, hi, _, hi1, _⟩ := info_parts infoF
  have hB2 : Box (W.alloc (.cells f.enc.toArray 68)) g 68 arr := hB.alloc _
  have hN : Box (W.alloc (.cells f.enc.toArray 68)) W.heap.size 68 f.enc.toArray := Box.new W _ _
  have hroom : k * 7 + 7 ≤ arr.size := by omega
  refine wpList_plain hgd fun K hK => ?_
  have hr := run_append_room_cells (P := Try.prog) (W.alloc (.cells f.enc.toArray 68)) 24 o.type 68 i Try.underlying24 hi g 0 k cap ⟨W.heap.size, 0, none⟩ 1 c f.enc (by rw [hi1, FC.enc7])
    (fun j u hj => by
      have e1 : ((⟨W.heap.size, 0, none⟩ : Addr).add j) = ⟨W.heap.size, j, none⟩ := by unfold Addr.add; by_cases h0 : j = 0 <;> simp [h0]
      rw [e1, hN.cell]; simpa using hj)
    f.one (by omega)
    (fun j hj => by
      rw [FC.enc7] at hj
      rw [hi1, hB2.cell, Array.getElem?_eq_getElem (by omega)]; rfl)
    (fun j _ => hB2.free _)
  rw [hi1, Nat.zero_add, setCells_sets] at hr
  unfold Oper.wp execOp
  simp only [ho, resolve, invoke, builtin, Sem.run_bind, Sem.run_pure, Result.andThen_ok, List.map_toArray, List.map_cons, List.map_nil, hs, hx, hr]
  exact hK _ _ h

/-- of fields that stand by their names, those behind which stands none of the same name -/
def lastsTo (d : Array FC) : Nat → List FC
  | 0 => []
  | i + 1 => if h : i < d.size then (if i + 1 = d.size ∨ ∃ h2 : i + 1 < d.size, (d[i + 1]).nm ≠ (d[i]).nm then lastsTo d i ++ [d[i]] else lastsTo d i) else lastsTo d i

theorem lastsTo_length (d : Array FC) : ∀ i, (lastsTo d i).length ≤ i
  | 0 => Nat.le_refl _
  | i + 1 => by
    have := lastsTo_length d i
    rw [lastsTo]
    split
    · split
      · simp; omega
      · omega
    · omega

theorem lastsTo_mem (d : Array FC) : ∀ i, ∀ x ∈ lastsTo d i, x ∈ d
  | 0, x, h => by cases h
  | i + 1, x, h => by
    rw [lastsTo] at h
    split at h
    · rename_i hi
      split at h
      · rcases List.mem_append.1 h with h | h
        · exact lastsTo_mem d i x h
        · rw [List.mem_singleton.1 h]; exact Array.getElem_mem hi
      · exact lastsTo_mem d i x h
    · exact lastsTo_mem d i x h

/-- a row of fields in a block of its own, as a slice of fields -/
theorem row_fields {w : World} {S : Nat → Prop} {g cap : Nat} {arr : Array Value} {l : List FC} (hB : Box w g 68 arr) (hS : S g) (hc : l.length ≤ cap) (hc2 : cap ≤ maxLen) (hrow : ∀ i (h : i < l.length), ∀ q u, ((l[i]).enc)[q]? = some u → arr[i * 7 + q]? = some u)
    (hat : ∀ x ∈ l, x.v.At w S (.slice x.a x.v.list.length x.c) (.slice x.b x.v.fields.length x.d)) : FAt w S (l.map FC.fd) (.slice (some ⟨g, 0, none⟩) l.length cap) := by
  refine ⟨_, cap, by rw [List.length_map], by rw [List.length_map]; exact hc, hc2, .inr ⟨g, 0, rfl, hS, hB.lt, FCells.mk fun i hi => ?_⟩⟩
  have hi' : i < l.length := by simpa using hi
  refine ⟨.slice (l[i]).a (l[i]).v.list.length (l[i]).c, .slice (l[i]).b (l[i]).v.fields.length (l[i]).d, fun q u hq => ?_, ?_⟩
  · rw [Nat.zero_add, hB.cell]
    refine hrow i hi' q u ?_
    simpa [FC.fd, FC.enc, V.cells] using hq
  · simpa [FC.fd] using hat (l[i]) (List.getElem_mem hi')

end Go.Proofs.Ytacphlceggbfcaa
end

section
namespace Go.Proofs.Ytacphlceggbfcaa
open Go.RowKit Go.Sort

theorem cf_swo : SWO (ltOf FC.cf) := by
  have e : ∀ x y : FC, ltOf FC.cf x y = decide (x.nm.data.toList < y.nm.data.toList) := fun x y => by
    unfold ltOf FC.cf cmpL
    by_cases h : x.nm.data.toList < y.nm.data.toList
    · simp [h]
    · by_cases h2 : y.nm.data.toList < x.nm.data.toList <;> simp [h, h2]
  refine ⟨fun x => ?_, fun x y z h1 h2 => ?_, fun x y z h1 h2 => ?_⟩
  · rw [e]; exact decide_eq_false (lt_irr _)
  · rw [e] at *
    exact decide_eq_true (List.lt_trans (of_decide_eq_true h1) (of_decide_eq_true h2))
  · rw [e] at *
    have h1 := of_decide_eq_false h1
    have h2 := of_decide_eq_false h2
    refine decide_eq_false fun h => ?_
    rcases lt_tri x.nm.data.toList y.nm.data.toList with g | g | g
    · exact h1 g
    · rw [g] at h; exact h2 h
    · rcases lt_tri y.nm.data.toList z.nm.data.toList with q | q | q
      · exact h2 q
      · rw [q] at g; exact lt_asym h g
      · exact lt_asym h (List.lt_trans q g)

def sortF (d : Array FC) : Array FC := Sort.insertionSort (ltOf FC.cf) d 0 d.size
theorem sortF_size (d : Array FC) : (sortF d).size = d.size := sort_size _ d 0 d.size
theorem sortF_perm (d : Array FC) : (sortF d).toList.Perm d.toList := by
  have h := (insertionSort_holds (lt := ltOf FC.cf) cf_swo d 0 d.size (Nat.zero_le _) (Nat.le_refl _)).1.2.2
  have e1 : ((sortF d).extract 0 d.size).toList = (sortF d).toList := by simp [← sortF_size d]
  have e2 : (d.extract 0 d.size).toList = d.toList := by simp
  rw [← e1, ← e2]
  exact h
theorem sortF_mem {d : Array FC} {x : FC} (h : x ∈ sortF d) : x ∈ d := by
  have := (sortF_perm d).mem_iff.1 (Array.mem_toList_iff.2 h)
  exact Array.mem_toList_iff.1 this

/-- the row in the middle of the loop: what is kept ahead, what was there from i on -/
def RowR (D : Array FC) (cap : Nat) (arr0 arr : Array Value) (i : Nat) : Prop :=
  arr.size = cap * 7 ∧ (∀ p, i * 7 ≤ p → arr[p]? = arr0[p]?) ∧ ∀ j (h : j < (lastsTo D i).length), ∀ q u, ((lastsTo D i)[j].enc)[q]? = some u → arr[j * 7 + q]? = some u

theorem RowR.skip {D : Array FC} {cap : Nat} {arr0 arr : Array Value} {i : Nat} (h : RowR D cap arr0 arr i) (he : lastsTo D (i + 1) = lastsTo D i) : RowR D cap arr0 arr (i + 1) :=
  ⟨h.1, fun p hp => h.2.1 p (by omega), by rw [he]; exact h.2.2⟩

theorem RowR.keep {D : Array FC} {cap : Nat} {arr0 arr : Array Value} {i : Nat} (h : RowR D cap arr0 arr i) (x : FC) (he : lastsTo D (i + 1) = lastsTo D i ++ [x]) (hc : i < cap) : RowR D cap arr0 (aset arr ((lastsTo D i).length * 7) x.enc) (i + 1) := by
  have hk := lastsTo_length D i
  refine ⟨by rw [aset_size]; exact h.1, fun p hp => ?_, ?_⟩
  · rw [aset_far _ _ _ _ (.inr (by rw [FC.enc7]; omega))]
    exact h.2.1 p (by omega)
  · rw [he]
    intro j hj q u hq
    have hq7 : q < 7 := by have := (List.getElem?_eq_some_iff.1 hq).1; rwa [FC.enc7] at this
    by_cases hjl : j < (lastsTo D i).length
    · rw [List.getElem_append_left hjl] at hq
      rw [aset_far _ _ _ _ (.inl (by omega))]
      exact h.2.2 j hjl q u hq
    · obtain rfl : j = (lastsTo D i).length := by simp at hj; omega
      rw [List.getElem_append_right (Nat.le_refl _)] at hq
      simp only [Nat.sub_self, List.getElem_cons_zero] at hq
      exact aset_get _ _ _ (by rw [FC.enc7, h.1]; omega) q u hq

def OfMapP (f : List Fd) (w : World) (e : Ending) (w' : World) : Prop :=
  ∃ fv, e = .returned (.agg #[.int .i64 5, .bool false, .int .i64 0, .string ⟨#[]⟩, .slice none 0 0, fv]) ∧ (V.ofMap f).At w' (fun q => w.heap.size ≤ q) (.slice none 0 0) fv ∧ RowKit.Below w.heap.size w w'

/-- what of the fields is kept -/
def keptF (d : Array FC) : List FC := lastsTo (sortF d) d.size

set_option maxHeartbeats 4000000 in
set_option maxRecDepth 100000 in
theorem ofMap_some (b off c : Nat) (d : Array FC) (hd0 : 0 < d.size) (hd : d.size ≤ 20) (w : World) (hb : b < w.heap.size) (hin : ∀ i (h : i < d.size), InAt w b (off + i * 7) (d[i]).enc) (hrep : RepAt w All d) (hsm : ∀ x ∈ d, x.v.sm) :
    Calls Try.prog 40 #[.slice (some ⟨b, off, none⟩) d.size c] w (OfMapP ((keptF d).map FC.fd) w) := by
  have hz0 : (w.alloc (.cells #[.int .i64 0, .bool false, .int .i64 0, .string ⟨#[]⟩, .slice none 0 0, .slice none 0 0] 26)).heap.size = w.heap.size + 1 := by simp
  have hb0 : RowKit.Below w.heap.size w (w.alloc (.cells #[.int .i64 0, .bool false, .int .i64 0, .string ⟨#[]⟩, .slice none 0 0, .slice none 0 0] 26)) := (RowKit.Below.refl _ w).alloc (Nat.le_refl _) _
  have hZ : Box (w.alloc (.cells #[.int .i64 0, .bool false, .int .i64 0, .string ⟨#[]⟩, .slice none 0 0, .slice none 0 0] 26)) w.heap.size 26 #[.int .i64 0, .bool false, .int .i64 0, .string ⟨#[]⟩, .slice none 0 0, .slice none 0 0] := Box.new w _ _
  have hcl := fclone_any b off c d hd0 (by omega) (w.alloc (.cells #[.int .i64 0, .bool false, .int .i64 0, .string ⟨#[]⟩, .slice none 0 0, .slice none 0 0] 26)) (by rw [hz0]; omega) (fun i h => (hin i h).keep (hb0.block b hb))
  have HREP := Lib.hid (show ∀ w', RowKit.Below w.heap.size w w' → ∀ x ∈ d, x.v.Is w' (.slice x.a x.v.list.length x.c) (.slice x.b x.v.fields.length x.d) from fun w' hw x hx => by
    obtain ⟨i, hi, rfl⟩ := Array.getElem_of_mem hx
    exact V.Is.below (hrep i hi) hw)
  have HSM := Lib.hid hsm
  have HB := Lib.hid (And.intro hz0 (And.intro hb0 hZ))
  have HD0 := Lib.hid hd0
  clear hz0 hb0 hZ hrep hsm hin hb hd0
  go_enter Try.func40, Try.ntmps40
  go_wp2_with fail
  refine hcl.mono ?_
  rintro e w1 ⟨g, cap, arr, rfl, hBg, hasz, hdc, hcm, hHold, hg1, hb1⟩
  obtain ⟨hz0, hb0, hZ⟩ := HB.out
  rw [hz0] at hg1 hb1
  have hZ1 : Box w1 w.heap.size 26 #[.int .i64 0, .bool false, .int .i64 0, .string ⟨#[]⟩, .slice none 0 0, .slice none 0 0] := (hb1.block _ (by omega)).trans hZ
  have hb1w : RowKit.Below w.heap.size w w1 := hb0.trans (hb1.mono (by omega))
  have hsort := sort_any d hd cap g w1 hHold hBg.lt
  have HX1 := Lib.hid (And.intro hBg (And.intro hZ1 (And.intro hb1w (And.intro hg1 hasz))))
  clear hBg hHold hZ1 hb1w hb1 hz0 hb0 hZ hasz hcl
  go_wp2_with fail
  refine hsort.mono ?_
  rintro e w2 ⟨rfl, hsw, hH2, hgr⟩
  obtain ⟨hBg, hZ1, hb1w, hg1', hasz⟩ := HX1.out
  obtain ⟨arr0, hB2, hsz2, _⟩ := hsw _ _ hBg
  rw [hasz] at hsz2
  have hlt2 := hB2.lt
  have hZ2 : Box w2 w.heap.size 26 #[.int .i64 0, .bool false, .int .i64 0, .string ⟨#[]⟩, .slice none 0 0, .slice none 0 0] := (hgr.block _ hZ1.lt (fun e => by injection e; omega)).trans hZ1
  have hb2w : RowKit.Below w.heap.size w w2 := hb1w.grown hgr hb1w.size (fun k hk => by injection hk; omega)
  have hflat : ∀ i (h : i < (sortF d).size), ∀ q u, (((sortF d)[i]).enc)[q]? = some u → arr0[i * 7 + q]? = some u := fun i h q u hq => by
    have hq7 : q < 7 := by have := (List.getElem?_eq_some_iff.1 hq).1; rwa [FC.enc7] at this
    have hjl : i * 7 + q < (sortF d).size * 7 := by omega
    have h1 := (hH2 (i * 7 + q) (by rw [size_flatK]; exact hjl)).1
    rw [Nat.zero_add, hB2.cell] at h1
    obtain ⟨p, r, hp, he, hr, e⟩ := flat_at (sortF d) (i * 7 + q) hjl
    obtain ⟨rfl, rfl⟩ : p = i ∧ r = q := by omega
    have e2 : (flatK FC.enc 7 (sortF d))[p * 7 + r]? = some ((flatK FC.enc 7 (sortF d))[p * 7 + r]!) := by
      rw [Array.getElem?_eq_getElem (by rw [size_flatK]; exact hjl), getElem!_pos _ _ (by rw [size_flatK]; exact hjl)]
    rw [h1]
    rw [e2, hq] at e
    injection e with e
    rw [← e]
    rfl
  have hns : (sortF d).size = d.size := sortF_size d
  have hmem : ∀ x ∈ sortF d, x ∈ d := fun x hx => sortF_mem hx
  clear hsw hH2 hgr hsort
  generalize hDD : sortF d = D at hflat hns hmem
  have HKF : Hid (keptF d = lastsTo D d.size) := Lib.hid (by rw [← hDD]; rfl)
  clear hDD
  have HF := Lib.hid hflat
  have HN := Lib.hid hns
  have HM := Lib.hid hmem
  have HSZ := Lib.hid hsz2
  have hbase := Lib.hid (And.intro hB2 (And.intro hZ2 hb2w))
  clear hBg hZ1 hb1w hg1' hasz hflat hns hmem hB2 hZ2 hb2w hsz2
  go_wp2_with fail
  go_loopw [4, 15] (fun lv iv wr => ∃ (i : Nat) (arr' : Array Value), i ≤ d.size ∧ iv = .int .i64 i ∧ lv = .slice (some ⟨g, 0, none⟩) (lastsTo D i).length cap ∧ RowKit.Below w.heap.size w wr ∧ Box wr w.heap.size 26 #[.int .i64 0, .bool false, .int .i64 0, .string ⟨#[]⟩, .slice none 0 0, .slice none 0 0] ∧ Box wr g 68 arr' ∧ Hid (RowR D cap arr0 arr' i)) (fun _ iv _ => d.size - (intOf iv).toNat)
  case atStart => exact ⟨0, arr0, Nat.zero_le _, rfl, rfl, hbase.out.2.2, hbase.out.2.1, hbase.out.1, Lib.hid ⟨HSZ.out, fun _ _ => rfl, fun j h => by simp [lastsTo] at h⟩⟩
  case round =>
    obtain ⟨i, arr', hi, rfl, rfl, hbr, hZr, hBr, HR⟩ := hrel
    have hzr := hbr.size
    have hltg := hBr.lt
    have hltR := hZr.lt
    by_cases hid : i < d.size
    · have hid' : (i : Int) < (d.size : Int) := by omega
      have hi0 : (0 : Int) ≤ (i : Int) := by omega
      have hkl := lastsTo_length D i
      have hDi : i < D.size := by rw [HN.out]; exact hid
      -- the field that stands there
      have hcell : ∀ q u, ((D[i]).enc)[q]? = some u → wr.cell? ⟨g, i * 7 + q, none⟩ = some u := fun q u hq => by
        rw [hBr.cell, HR.out.2.1 (i * 7 + q) (by omega)]
        exact HF.out i hDi q u hq
      have hcell2 : i + 1 < d.size → ∃ h2 : i + 1 < D.size, wr.cell? ⟨g, (i + 1) * 7, none⟩ = some (.string (D[i + 1]).nm) := fun h2 => by
        have h3 : i + 1 < D.size := by rw [HN.out]; exact h2
        refine ⟨h3, ?_⟩
        have := HF.out (i + 1) h3 0 (.string (D[i + 1]).nm) rfl
        rw [hBr.cell, HR.out.2.1 ((i + 1) * 7) (by omega)]
        simpa using this
      have q0 := hcell 0 _ rfl
      have q1 := hcell 1 _ rfl
      have q2 := hcell 2 _ rfl
      have q3 := hcell 3 _ rfl
      have q4 := hcell 4 _ rfl
      have q5 := hcell 5 _ rfl
      have q6 := hcell 6 _ rfl
      simp only [Nat.add_zero] at q0
      have hsucc : Hid (lastsTo D (i + 1) = if i + 1 = D.size ∨ ∃ h2 : i + 1 < D.size, (D[i + 1]).nm ≠ (D[i]).nm then lastsTo D i ++ [D[i]] else lastsTo D i) := Lib.hid (by rw [lastsTo, dif_pos hDi])
      clear hcell
      have HI := Lib.hid (show IntKind.i64.wrap ((i : Int) + 1) = (i : Int) + 1 ∧ (0 : Int) ≤ (i : Int) + 1 ∧ ((i : Int) + 1).toNat = i + 1 by rw [IntKind.wrap_i64]; omega)
      generalize D[i] = x at q0 q1 q2 q3 q4 q5 q6 hsucc
      obtain ⟨nm, v, ax, cx, bx, dx⟩ := x
      have HRR := Lib.hid (And.intro hbr (And.intro hZr (And.intro hBr (And.intro hltg (And.intro hltR (And.intro hzr hkl))))))
      by_cases hl : i + 1 = d.size
      · have hE : Hid (lastsTo D (i + 1) = lastsTo D i ++ [⟨nm, v, ax, cx, bx, dx⟩]) := Lib.hid (by rw [hsucc.out, if_pos (.inl (by rw [HN.out]; exact hl))])
        have e0 : (((i : Int) + 1) == (d.size : Int)) = true := by rw [beq_iff_eq]; omega
        obtain ⟨r1, r2, r3⟩ := HI.out
        clear hcell2 hsucc hl hbr hZr hBr hltg hltR hzr hkl
        go_wp2_with fail
        go_quiet (fail)
        go_wp2_with (at_builtin; refine Mark.out ?_)
        refine Mark.mk ?_
        obtain ⟨hbr, hZr, hBr, hltg, hltR, hzr, hkl⟩ := HRR.out
        have hBq : Box ((wr.alloc (.cells #[.string nm, .int .i64 v.kind, .bool v.yes, .int .i64 v.num, .string v.text, .slice ax v.list.length cx, .slice bx v.fields.length dx] 68)).drewN nq) g 68 arr' := hBr.alloc (.cells #[.string nm, .int .i64 v.kind, .bool v.yes, .int .i64 v.num, .string v.text, .slice ax v.list.length cx, .slice bx v.fields.length dx] 68)
        refine wpList_app_keep ((wr.alloc (.cells #[.string nm, .int .i64 v.kind, .bool v.yes, .int .i64 v.num, .string v.text, .slice ax v.list.length cx, .slice bx v.fields.length dx] 68)).drewN nq) (wr.heap.size + 1) (by simp) rfl (.tmp 36) (.tmp 38) rfl g (lastsTo D i).length cap rfl arr' hBq HR.out.1 (by omega) ⟨nm, v, ax, cx, bx, dx⟩ _ rfl 1 rfl ?_
        have hb5 := Go.Proofs.Ytacphlceggbfcaa.Below.sets (FC.enc ⟨nm, v, ax, cx, bx, dx⟩) ((lastsTo D i).length * 7) ((rowB.below_drewN (hbr.alloc hzr (.cells #[.string nm, .int .i64 v.kind, .bool v.yes, .int .i64 v.num, .string v.text, .slice ax v.list.length cx, .slice bx v.fields.length dx] 68)) nq).alloc (by simp; omega) (.cells #[.string nm, .int .i64 v.kind, .bool v.yes, .int .i64 v.num, .string v.text, .slice ax v.list.length cx, .slice bx v.fields.length dx] 68)) (g := g) (by omega)
        have hZ5 : Box (sets (((wr.alloc (.cells #[.string nm, .int .i64 v.kind, .bool v.yes, .int .i64 v.num, .string v.text, .slice ax v.list.length cx, .slice bx v.fields.length dx] 68)).drewN nq).alloc (.cells #[.string nm, .int .i64 v.kind, .bool v.yes, .int .i64 v.num, .string v.text, .slice ax v.list.length cx, .slice bx v.fields.length dx] 68)) g ((lastsTo D i).length * 7) (FC.enc ⟨nm, v, ax, cx, bx, dx⟩)) w.heap.size 26 #[.int .i64 0, .bool false, .int .i64 0, .string ⟨#[]⟩, .slice none 0 0, .slice none 0 0] := (sets_far _ _ _ _ (by omega)).trans (Box.alloc (show Box ((wr.alloc (.cells #[.string nm, .int .i64 v.kind, .bool v.yes, .int .i64 v.num, .string v.text, .slice ax v.list.length cx, .slice bx v.fields.length dx] 68)).drewN nq) w.heap.size 26 #[.int .i64 0, .bool false, .int .i64 0, .string ⟨#[]⟩, .slice none 0 0, .slice none 0 0] from hZr.alloc (.cells #[.string nm, .int .i64 v.kind, .bool v.yes, .int .i64 v.num, .string v.text, .slice ax v.list.length cx, .slice bx v.fields.length dx] 68)) _)
        have hB5 := Box.sets (FC.enc ⟨nm, v, ax, cx, bx, dx⟩) ((lastsTo D i).length * 7) (hBq.alloc (.cells #[.string nm, .int .i64 v.kind, .bool v.yes, .int .i64 v.num, .string v.text, .slice ax v.list.length cx, .slice bx v.fields.length dx] 68))
        have HE5 := Lib.hid (And.intro hb5 (And.intro hZ5 hB5))
        clear hbr hZr hBr hltg hltR hzr hkl hBq hb5 hZ5 hB5 r1 r2 r3
        go_wp2
        go_roundw
        case rel => exact ⟨i + 1, _, by omega, by go_num, by rw [hE.out]; simp, HE5.out.1, HE5.out.2.1, HE5.out.2.2, Lib.hid (HR.out.keep _ hE.out (by omega))⟩
        case measure => simp [intOf]; omega
      · have hl2 : i + 1 < d.size := by omega
        obtain ⟨h2, p0⟩ := hcell2 hl2
        have p1 : (wr.alloc (.cells #[.string nm, .int .i64 v.kind, .bool v.yes, .int .i64 v.num, .string v.text, .slice ax v.list.length cx, .slice bx v.fields.length dx] 68)).cell? ⟨g, (i + 1) * 7, none⟩ = some (.string (D[i + 1]).nm) := (World.cell?_alloc_lt wr _ ⟨g, (i + 1) * 7, none⟩ hltg).trans p0
        have e0 : (((i : Int) + 1) == (d.size : Int)) = false := by rw [beq_eq_false_iff_ne]; omega
        have hl3 : (i : Int) + 1 < (d.size : Int) := by omega
        obtain ⟨nm2, HNM⟩ : ∃ n, (D[i + 1]).nm = n := ⟨_, rfl⟩
        rw [HNM] at p0 p1
        by_cases hnn : nm2 = nm
        · have hE : Hid (lastsTo D (i + 1) = lastsTo D i) := Lib.hid (by
            rw [hsucc.out, if_neg]
            rintro (h | ⟨_, h⟩)
            · rw [HN.out] at h; omega
            · exact h (HNM.trans hnn))
          have g1 : (nm2.toList == nm.toList) = true := by rw [hnn, beq_iff_eq]
          have g2 : (nm2.toList != nm.toList) = false := by rw [bne, g1]; rfl
          obtain ⟨r1, r2, r3⟩ := HI.out
          clear hcell2 hsucc hl hbr hZr hBr hltg hltR hzr hkl hl2 h2 p0 hnn HNM
          go_wp2_with fail
          go_quiet (fail)
          clear r1 r2 r3
          obtain ⟨hbr, hZr, hBr, hltg, hltR, hzr, hkl⟩ := HRR.out
          have HE5 := Lib.hid (fun n => And.intro (rowB.below_drewN (hbr.alloc hzr (.cells #[.string nm, .int .i64 v.kind, .bool v.yes, .int .i64 v.num, .string v.text, .slice ax v.list.length cx, .slice bx v.fields.length dx] 68)) n) (And.intro (hZr.alloc (.cells #[.string nm, .int .i64 v.kind, .bool v.yes, .int .i64 v.num, .string v.text, .slice ax v.list.length cx, .slice bx v.fields.length dx] 68)) (hBr.alloc (.cells #[.string nm, .int .i64 v.kind, .bool v.yes, .int .i64 v.num, .string v.text, .slice ax v.list.length cx, .slice bx v.fields.length dx] 68))))
          clear hbr hZr hBr hltg hltR hzr hkl
          go_wp2
          go_roundw
          case rel => exact ⟨i + 1, arr', by omega, by go_num, by rw [hE.out], (HE5.out _).1, (HE5.out 0).2.1, (HE5.out 0).2.2, Lib.hid (HR.out.skip hE.out)⟩
          case measure => simp [intOf]; omega
        · have hE : Hid (lastsTo D (i + 1) = lastsTo D i ++ [⟨nm, v, ax, cx, bx, dx⟩]) := Lib.hid (by rw [hsucc.out, if_pos (.inr ⟨h2, by rw [HNM]; exact hnn⟩)])
          have g1 : (nm2.toList == nm.toList) = false := by
            rw [beq_eq_false_iff_ne, Lib.toList_data, Lib.toList_data]; intro e; exact hnn (ByteArray.ext (Array.toList_inj.1 e))
          have g2 : (nm2.toList != nm.toList) = true := by rw [bne, g1]; rfl
          obtain ⟨r1, r2, r3⟩ := HI.out
          clear hcell2 hsucc hl hbr hZr hBr hltg hltR hzr hkl hl2 h2 p0 hnn HNM
          go_wp2_with fail
          go_quiet (fail)
          go_wp2_with (at_builtin; refine Mark.out ?_)
          refine Mark.mk ?_
          obtain ⟨hbr, hZr, hBr, hltg, hltR, hzr, hkl⟩ := HRR.out
          have hBq : Box ((wr.alloc (.cells #[.string nm, .int .i64 v.kind, .bool v.yes, .int .i64 v.num, .string v.text, .slice ax v.list.length cx, .slice bx v.fields.length dx] 68)).drewN nq) g 68 arr' := hBr.alloc (.cells #[.string nm, .int .i64 v.kind, .bool v.yes, .int .i64 v.num, .string v.text, .slice ax v.list.length cx, .slice bx v.fields.length dx] 68)
          refine wpList_app_keep ((wr.alloc (.cells #[.string nm, .int .i64 v.kind, .bool v.yes, .int .i64 v.num, .string v.text, .slice ax v.list.length cx, .slice bx v.fields.length dx] 68)).drewN nq) (wr.heap.size + 1) (by simp) rfl (.tmp 36) (.tmp 38) rfl g (lastsTo D i).length cap rfl arr' hBq HR.out.1 (by omega) ⟨nm, v, ax, cx, bx, dx⟩ _ rfl 1 rfl ?_
          have hb5 := Go.Proofs.Ytacphlceggbfcaa.Below.sets (FC.enc ⟨nm, v, ax, cx, bx, dx⟩) ((lastsTo D i).length * 7) ((rowB.below_drewN (hbr.alloc hzr (.cells #[.string nm, .int .i64 v.kind, .bool v.yes, .int .i64 v.num, .string v.text, .slice ax v.list.length cx, .slice bx v.fields.length dx] 68)) nq).alloc (by simp; omega) (.cells #[.string nm, .int .i64 v.kind, .bool v.yes, .int .i64 v.num, .string v.text, .slice ax v.list.length cx, .slice bx v.fields.length dx] 68)) (g := g) (by omega)
          have hZ5 : Box (sets (((wr.alloc (.cells #[.string nm, .int .i64 v.kind, .bool v.yes, .int .i64 v.num, .string v.text, .slice ax v.list.length cx, .slice bx v.fields.length dx] 68)).drewN nq).alloc (.cells #[.string nm, .int .i64 v.kind, .bool v.yes, .int .i64 v.num, .string v.text, .slice ax v.list.length cx, .slice bx v.fields.length dx] 68)) g ((lastsTo D i).length * 7) (FC.enc ⟨nm, v, ax, cx, bx, dx⟩)) w.heap.size 26 #[.int .i64 0, .bool false, .int .i64 0, .string ⟨#[]⟩, .slice none 0 0, .slice none 0 0] := (sets_far _ _ _ _ (by omega)).trans (Box.alloc (show Box ((wr.alloc (.cells #[.string nm, .int .i64 v.kind, .bool v.yes, .int .i64 v.num, .string v.text, .slice ax v.list.length cx, .slice bx v.fields.length dx] 68)).drewN nq) w.heap.size 26 #[.int .i64 0, .bool false, .int .i64 0, .string ⟨#[]⟩, .slice none 0 0, .slice none 0 0] from hZr.alloc (.cells #[.string nm, .int .i64 v.kind, .bool v.yes, .int .i64 v.num, .string v.text, .slice ax v.list.length cx, .slice bx v.fields.length dx] 68)) _)
          have hB5 := Box.sets (FC.enc ⟨nm, v, ax, cx, bx, dx⟩) ((lastsTo D i).length * 7) (hBq.alloc (.cells #[.string nm, .int .i64 v.kind, .bool v.yes, .int .i64 v.num, .string v.text, .slice ax v.list.length cx, .slice bx v.fields.length dx] 68))
          have HE5 := Lib.hid (And.intro hb5 (And.intro hZ5 hB5))
          clear hbr hZr hBr hltg hltR hzr hkl hBq hb5 hZ5 hB5 r1 r2 r3
          go_wp2
          go_roundw
          case rel => exact ⟨i + 1, _, by omega, by go_num, by rw [hE.out]; simp, HE5.out.1, HE5.out.2.1, HE5.out.2.2, Lib.hid (HR.out.keep _ hE.out (by omega))⟩
          case measure => simp [intOf]; omega
    · obtain rfl : i = d.size := by omega
      have hkl := lastsTo_length D d.size
      have hall : ∀ x ∈ lastsTo D d.size, x ∈ d := fun x hx => HM.out x (lastsTo_mem D d.size x hx)
      have hF := row_fields (S := All) hBr trivial (Nat.le_trans hkl hdc) hcm HR.out.2.2 (fun x hx => HREP.out wr hbr x (hall x hx))
      have hcl2 := cloneFields_any (depF ((lastsTo D d.size).map FC.fd)) (clone_all _) ((lastsTo D d.size).map FC.fd) (fun p hp => depF_mem hp) (fun p hp => by
        obtain ⟨x, hx, rfl⟩ := List.mem_map.1 hp
        exact HSM.out x (hall x hx)) (by rw [List.length_map]; omega) _ wr hF
      have HX := Lib.hid (And.intro hbr (And.intro hZr hltR))
      clear hF hall hbr hZr hBr hkl hdc hcm
      generalize hLL : (lastsTo D d.size).map FC.fd = L at hcl2
      have HKL : Hid ((keptF d).map FC.fd = L) := Lib.hid (by rw [HKF.out]; exact hLL)
      clear hLL
      go_wp2_with fail
      refine hcl2.mono ?_
      rintro e w5 ⟨lv', rfl, hF5, hb5⟩
      obtain ⟨qx, qc, rfl, _, _, _⟩ := id hF5
      obtain ⟨hbr, hZr, hltR⟩ := HX.out
      have hZ5 : Box w5 w.heap.size 26 #[.int .i64 0, .bool false, .int .i64 0, .string ⟨#[]⟩, .slice none 0 0, .slice none 0 0] := (hb5.block _ hltR).trans hZr
      have hb5w := hbr.trans (hb5.mono hzr)
      have hF6 := Box.sets [.int .i64 5, .bool false, .int .i64 0, .string ⟨#[]⟩, .slice none 0 0, .slice qx L.length qc] 0 hZ5
      obtain ⟨⟨k0, k1, k2, k3, k4, k5⟩, _⟩ := Box.six (c0 := .int .i64 5) (c1 := .bool false) (c2 := .int .i64 0) (c3 := .string ⟨#[]⟩) (c4 := .slice none 0 0) (c5 := .slice qx L.length qc) hF6
      simp only [sets, Nat.zero_add, Nat.reduceAdd] at k0 k1 k2 k3 k4 k5
      have hb6 := Go.Proofs.Ytacphlceggbfcaa.Below.sets [.int .i64 5, .bool false, .int .i64 0, .string ⟨#[]⟩, .slice none 0 0, .slice qx L.length qc] 0 hb5w (g := w.heap.size) (Nat.le_refl _)
      have hat6 : (V.ofMap L).At (sets w5 w.heap.size 0 [.int .i64 5, .bool false, .int .i64 0, .string ⟨#[]⟩, .slice none 0 0, .slice qx L.length qc]) (fun q => w.heap.size ≤ q) (.slice none 0 0) (.slice qx L.length qc) :=
        V.at_iff.2 ⟨⟨none, 0, rfl, Nat.le_refl _, by unfold maxLen; omega, .inl rfl⟩, FAt.move (fun b hb _ => ⟨by omega, sets_far _ _ _ _ (by omega)⟩) (by rw [sets_size]; exact Nat.le_refl _) hF5⟩
      obtain ⟨⟨z0, z1, z2, z3, z4, z5⟩, s0, s1, s2, s3, s4, s5⟩ := hZ5.six
      have HE := Lib.hid (And.intro hb6 hat6)
      clear hF6 hF5 hb5 hbr hZr hltR hZ5 hb5w hb6 hat6 hcl2
      go_wp2
      refine bodyPost_ret (v := .agg #[.int .i64 5, .bool false, .int .i64 0, .string ⟨#[]⟩, .slice none 0 0, .slice qx L.length qc]) (by simp [results, Try.results40, go_sem, k0, k1, k2, k3, k4, k5]) rfl ⟨_, rfl, by rw [HKL.out]; exact HE.out.2, HE.out.1⟩

end Go.Proofs.Ytacphlceggbfcaa
end

section
namespace Go.Proofs.Ytacphlceggbfcaa
open Go.RowKit Go.Sort

theorem kept_none : keptF #[] = [] := rfl

set_option maxHeartbeats 1000000 in
theorem stable_none (a : Option Addr) (cap : Nat) (w : World) :
    Calls Try.prog 71 #[.slice a 0 cap, .func (.func 72) #[] #[]] w fun e w' => e = .returned (.tuple #[]) ∧ w = w' := by
  have hins : ∀ w, Calls Try.prog 100 #[.slice a 0 cap, .int .i64 0, .int .i64 0, .func (.func 72) #[] #[]] w fun e w' => e = .returned (.tuple #[]) ∧ w = w' := fun w => by
    go_enter Try.func100, Try.ntmps100
    go_wp2_with fail
    refine wp_loop_rounds 1 ?_
    rw [rounds_succ]
    go_wp2
    go_end0
    exact ⟨rfl, rfl⟩
  have hst : ∀ w, Calls Try.prog 93 #[.slice a 0 cap, .int .i64 0, .func (.func 72) #[] #[]] w fun e w' => e = .returned (.tuple #[]) ∧ w = w' := fun w => by
    go_enter Try.func93, Try.ntmps93
    go_wp2_with fail
    refine wp_loop_rounds 1 ?_
    rw [rounds_succ]
    go_wp2_with fail
    refine (hins _).mono ?_
    rintro e w1 ⟨rfl, rfl⟩
    go_wp2_with fail
    refine wp_loop_rounds 1 ?_
    rw [rounds_succ]
    go_wp2
    go_end0
    exact ⟨rfl, rfl⟩
  go_enter Try.func71, Try.ntmps71
  go_wp2_with fail
  refine (hst _).mono ?_
  rintro e w1 ⟨rfl, rfl⟩
  go_wp2
  go_end0
  exact ⟨rfl, rfl⟩

theorem wpList_app_zero {ops : Array Oper} {rest : List Oper} {o : Oper} {a : Act} {w : World} {Q : Exit → Act → World → Prop} (hgd : o.guard = none) (s x : Operand)
    (ho : o.op = .call { callee := .builtin .append, args := #[s, x], argTypes := #[24, 24] })
    (g off cap : Nat) (hs : a.eval s = .slice (some ⟨g, off, none⟩) 0 cap) (ad : Addr) (c : Nat) (hx : a.eval x = .slice (some ad) 0 c)
    (h : wpList Try.prog ops Q rest (a.put o.dst (.slice (some ⟨g, off, none⟩) 0 cap)) w) : wpList Try.prog ops Q (o :: rest) a w := by
  obtain ⟨i, hi, _, hi1, _⟩ := info_parts infoF
  refine wpList_plain hgd fun K hK => ?_
  have hr := run_append_room_cells (P := Try.prog) w 24 o.type 68 i Try.underlying24 hi g off 0 cap ad 0 c [] (by simp) (fun j u hj => by simp at hj) (fun u hu => by cases hu) (by omega) (fun j hj => by simp at hj) (fun j hj => by simp at hj)
  rw [setCells_sets] at hr
  unfold Oper.wp execOp
  simp only [ho, resolve, invoke, builtin, Sem.run_bind, Sem.run_pure, Result.andThen_ok, List.map_toArray, List.map_cons, List.map_nil, hs, hx, hr]
  exact hK _ _ h

set_option maxHeartbeats 1000000 in
set_option maxRecDepth 100000 in
theorem fclone_none (a : Option Addr) (c : Nat) (w : World) :
    Calls Try.prog 70 #[.slice a 0 c] w fun e w' => (∃ a', e = .returned (.slice a' 0 0)) ∧ RowKit.Below w.heap.size w w' := by
  have heq := fun w' => Lib.run_eql_slice_nil (P := Try.prog) w' 24 68 a 0 c 0 0 Try.underlying24
  cases a with
  | none =>
    go_enter Try.func70, Try.ntmps70
    go_wp2
    go_ret
    exact ⟨⟨none, rfl⟩, RowKit.Below.refl _ _⟩
  | some ad =>
    go_enter Try.func70, Try.ntmps70
    go_wp2_with (at_builtin; refine Mark.out ?_)
    refine Mark.mk ?_
    refine wpList_app_zero rfl (.tmp 5) (.tmp 6) rfl w.heap.size 0 0 rfl ad c rfl ?_
    go_wp2
    go_ret
    exact ⟨⟨_, rfl⟩, (RowKit.Below.refl _ w).alloc (Nat.le_refl _) _⟩

set_option maxHeartbeats 2000000 in
set_option maxRecDepth 100000 in
theorem ofMap_none (a : Option Addr) (c : Nat) (w : World) : Calls Try.prog 40 #[.slice a 0 c] w (OfMapP [] w) := by
  have hb0 : RowKit.Below w.heap.size w (w.alloc (.cells #[.int .i64 0, .bool false, .int .i64 0, .string ⟨#[]⟩, .slice none 0 0, .slice none 0 0] 26)) := (RowKit.Below.refl _ w).alloc (Nat.le_refl _) _
  have hZ : Box (w.alloc (.cells #[.int .i64 0, .bool false, .int .i64 0, .string ⟨#[]⟩, .slice none 0 0, .slice none 0 0] 26)) w.heap.size 26 #[.int .i64 0, .bool false, .int .i64 0, .string ⟨#[]⟩, .slice none 0 0, .slice none 0 0] := Box.new w _ _
  have HB := Lib.hid (And.intro hb0 hZ)
  clear hb0 hZ
  go_enter Try.func40, Try.ntmps40
  go_wp2_with fail
  refine (fclone_none a c _).mono ?_
  rintro e w1 ⟨⟨a', rfl⟩, hb1⟩
  have hb1w := HB.out.1.trans (hb1.mono (by simp))
  have hZ1 : Box w1 w.heap.size 26 #[.int .i64 0, .bool false, .int .i64 0, .string ⟨#[]⟩, .slice none 0 0, .slice none 0 0] := (hb1.block _ (by simp)).trans HB.out.2
  have HX := Lib.hid (And.intro hb1w hZ1)
  have hcl := cloneFields_any (depF []) (clone_all _) [] (fun x hx => by cases hx) (fun x hx => by cases hx) (by simp) (.slice a' 0 0) w1 ⟨a', 0, rfl, Nat.le_refl _, by unfold maxLen; omega, .inl rfl⟩
  clear hb1 hb1w hZ1
  go_wp2_with fail
  refine (stable_none a' 0 w1).mono ?_
  rintro e w2 ⟨rfl, rfl⟩
  go_wp2_with fail
  refine wp_loop_rounds 1 ?_
  rw [rounds_succ]
  go_wp2_with fail
  refine hcl.mono ?_
  rintro e w5 ⟨lv', rfl, hF5, hb5⟩
  obtain ⟨qx, qc, rfl, _, _, _⟩ := id hF5
  have hz1 := HX.out.2.lt
  have hZ5 : Box w5 w.heap.size 26 #[.int .i64 0, .bool false, .int .i64 0, .string ⟨#[]⟩, .slice none 0 0, .slice none 0 0] := (hb5.block _ hz1).trans HX.out.2
  have hb5w := HX.out.1.trans (hb5.mono (by omega))
  have hF6 := Box.sets [.int .i64 5, .bool false, .int .i64 0, .string ⟨#[]⟩, .slice none 0 0, .slice qx 0 qc] 0 hZ5
  obtain ⟨⟨k0, k1, k2, k3, k4, k5⟩, _⟩ := Box.six (c0 := .int .i64 5) (c1 := .bool false) (c2 := .int .i64 0) (c3 := .string ⟨#[]⟩) (c4 := .slice none 0 0) (c5 := .slice qx 0 qc) hF6
  simp only [sets, Nat.zero_add, Nat.reduceAdd] at k0 k1 k2 k3 k4 k5
  have hb6 := Go.Proofs.Ytacphlceggbfcaa.Below.sets [.int .i64 5, .bool false, .int .i64 0, .string ⟨#[]⟩, .slice none 0 0, .slice qx 0 qc] 0 hb5w (g := w.heap.size) (Nat.le_refl _)
  have hat6 : (V.ofMap []).At (sets w5 w.heap.size 0 [.int .i64 5, .bool false, .int .i64 0, .string ⟨#[]⟩, .slice none 0 0, .slice qx 0 qc]) (fun q => w.heap.size ≤ q) (.slice none 0 0) (.slice qx 0 qc) :=
    V.at_iff.2 ⟨⟨none, 0, rfl, Nat.le_refl _, by unfold maxLen; omega, .inl rfl⟩, FAt.move (fun b hb _ => ⟨by omega, sets_far _ _ _ _ (by omega)⟩) (by rw [sets_size]; exact Nat.le_refl _) hF5⟩
  obtain ⟨⟨z0, z1, z2, z3, z4, z5⟩, s0, s1, s2, s3, s4, s5⟩ := hZ5.six
  have HE := Lib.hid (And.intro hb6 hat6)
  clear hF6 hF5 hb5 hZ5 hb5w hb6 hat6 hcl hz1
  go_wp2
  refine bodyPost_ret (v := .agg #[.int .i64 5, .bool false, .int .i64 0, .string ⟨#[]⟩, .slice none 0 0, .slice qx 0 qc]) (by simp [results, Try.results40, go_sem, k0, k1, k2, k3, k4, k5]) rfl ⟨_, rfl, HE.out.2, HE.out.1⟩

/-- OfMap of twenty fields at most, however they lie -/
theorem ofMap_any (fs : List Fd) (fv : Value) (w : World) (h : FAt w All fs fv) (hlen : fs.length ≤ 20) (hsm : ∀ p ∈ fs, p.2.sm) :
    ∃ d : Array FC, fs = (d.map FC.fd).toList ∧ Calls Try.prog 40 #[fv] w (OfMapP ((keptF d).map FC.fd) w) := by
  obtain ⟨a, c, d, rfl, hfs, hrep, hd⟩ := fields_lie h
  have hl : d.size = fs.length := by rw [hfs]; simp
  refine ⟨d, hfs, ?_⟩
  by_cases h0 : d.size = 0
  · obtain rfl : d = #[] := Array.eq_empty_of_size_eq_zero h0
    exact ofMap_none a c w
  · rcases hd with hd | ⟨b, off, rfl, hb, hin⟩
    · exact absurd hd h0
    · exact ofMap_some b off c d (by omega) (by omega) w hb hin hrep (fun x hx => hsm (FC.fd x) (by
        rw [hfs]
        exact Array.mem_toList_iff.2 (Array.mem_map.2 ⟨x, hx, rfl⟩)))

end Go.Proofs.Ytacphlceggbfcaa
end

section
namespace Go.Proofs.Ytacphlceggbfcaa
open Go.Sort

theorem lastsTo_at (D : Array FC) : ∀ i, ∀ x ∈ lastsTo D i, ∃ (k : Nat) (h : k < D.size), k < i ∧ x = D[k] ∧ (k + 1 = D.size ∨ ∃ h2 : k + 1 < D.size, (D[k + 1]).nm ≠ (D[k]).nm)
  | 0, x, h => by cases h
  | i + 1, x, h => by
    rw [lastsTo] at h
    split at h
    · rename_i hi
      split at h
      · rename_i hk
        rcases List.mem_append.1 h with h | h
        · obtain ⟨k, h1, h2, h3⟩ := lastsTo_at D i x h
          exact ⟨k, h1, by omega, h3⟩
        · exact ⟨i, hi, by omega, List.mem_singleton.1 h, hk⟩
      · obtain ⟨k, h1, h2, h3⟩ := lastsTo_at D i x h
        exact ⟨k, h1, by omega, h3⟩
    · obtain ⟨k, h1, h2, h3⟩ := lastsTo_at D i x h
      exact ⟨k, h1, by omega, h3⟩

theorem sortF_le (d : Array FC) {i j : Nat} (hi : i < (sortF d).size) (hj : j < (sortF d).size) (h : i ≤ j) : ¬ (sortF d)[j].nm.data.toList < (sortF d)[i].nm.data.toList := by
  by_cases e : i = j
  · subst e; exact lt_irr _
  · have hs := sortF_size d
    have h1 := (insertionSort_holds (lt := ltOf FC.cf) cf_swo d 0 d.size (Nat.zero_le _) (Nat.le_refl _)).2 i j (Nat.zero_le _) (by omega) (by omega)
    have h2 : ltOf FC.cf (sortF d)[j]! (sortF d)[i]! = false := h1
    rw [getElem!_pos _ j hj, getElem!_pos _ i hi] at h2
    intro h3
    unfold ltOf FC.cf at h2
    rw [cmpL_lt h3] at h2
    cases h2

def riseFC (x y : FC) : Prop := x.nm.data.toList < y.nm.data.toList

theorem lasts_rise (d : Array FC) : ∀ i, i ≤ (sortF d).size → (lastsTo (sortF d) i).Pairwise riseFC
  | 0, _ => List.Pairwise.nil
  | i + 1, hi => by
    have ih := lasts_rise d i (by omega)
    rw [lastsTo, dif_pos (by omega)]
    split
    · refine List.pairwise_append.2 ⟨ih, List.pairwise_singleton _ _, fun x hx y hy => ?_⟩
      obtain rfl : y = (sortF d)[i] := List.mem_singleton.1 hy
      obtain ⟨k, hk, hki, rfl, hlast | ⟨h2, hne⟩⟩ := lastsTo_at _ _ x hx
      · omega
      · have h3 := sortF_le d (i := k) (j := k + 1) hk h2 (by omega)
        have h4 := sortF_le d (i := k + 1) (j := i) h2 (by omega) (by omega)
        have h5 : (sortF d)[k].nm.data.toList < (sortF d)[k + 1].nm.data.toList := by
          rcases lt_tri (sortF d)[k].nm.data.toList (sortF d)[k + 1].nm.data.toList with g | g | g
          · exact g
          · exact absurd (ByteArray.ext (Array.toList_inj.1 g)).symm hne
          · exact absurd g h3
        show (sortF d)[k].nm.data.toList < (sortF d)[i].nm.data.toList
        rcases lt_tri (sortF d)[k + 1].nm.data.toList (sortF d)[i].nm.data.toList with g | g | g
        · exact List.lt_trans h5 g
        · rw [← g]; exact h5
        · exact absurd g h4
    · exact ih

theorem kept_rise (d : Array FC) : (keptF d).Pairwise riseFC := lasts_rise d d.size (by rw [sortF_size]; exact Nat.le_refl _)

theorem kept_mem {d : Array FC} {x : FC} (h : x ∈ keptF d) : x ∈ d := sortF_mem (lastsTo_mem _ _ x h)

theorem kept_length (d : Array FC) : (keptF d).length ≤ d.size := lastsTo_length _ _

/-- so a map of what is kept is right, where the values are -/
theorem kept_right (d : Array FC) (r : Int) (h : ∀ x ∈ d, x.v.right r = true) : rightF none ((keptF d).map FC.fd) r = true := by
  refine rightF_iff.2 fun i hi => ?_
  have hi' : i < (keptF d).length := by simpa using hi
  simp only [List.getElem_map]
  refine ⟨h _ (kept_mem (List.getElem_mem hi')), ?_⟩
  by_cases h0 : 0 < i
  · rw [dif_pos h0]
    exact decide_eq_true (List.pairwise_iff_getElem.1 (kept_rise d) (i - 1) i (by omega) hi' (by omega))
  · rw [dif_neg h0]
    rfl

end Go.Proofs.Ytacphlceggbfcaa
end

section
namespace Go.Proofs.Ytacphlceggbfcaa
open Go.Sort

theorem swap_filter {α : Type} (p : α → Bool) : ∀ (l : List α) (j : Nat) (x y : α), l[j]? = some x → l[j + 1]? = some y → (p x = true → p y = true → False) → ((l.set (j + 1) x).set j y).filter p = l.filter p
  | [], _, _, _, h, _, _ => by simp at h
  | [_], 0, _, _, _, h, _ => by simp at h
  | a :: b :: l, 0, x, y, h1, h2, h => by
    obtain rfl : a = x := by simpa using h1
    obtain rfl : b = y := by simpa using h2
    simp only [List.set_cons_succ, List.set_cons_zero, List.filter_cons]
    cases h3 : p a <;> cases h4 : p b
    · rfl
    · rfl
    · rfl
    · exact absurd h4 (fun h4 => h h3 h4)
  | a :: l, j + 1, x, y, h1, h2, h => by
    have ih := swap_filter p l j x y (by simpa using h1) (by simpa using h2) h
    simp only [List.set_cons_succ, List.filter_cons, ih]

section
variable {α : Type} [Inhabited α] (lt : α → α → Bool) (p : α → Bool) (hp : ∀ x y, p x = true → p y = true → lt x y = false)
include hp

theorem swp_filter (d : Array α) (j : Nat) (hj : j + 1 < d.size) (h : lt d[j + 1]! d[j]! = true) : (swp d (j + 1) j).toList.filter p = d.toList.filter p := by
  unfold swp
  rw [getElem!_pos d (j + 1) hj, getElem!_pos d j (by omega)] at *
  rw [Array.toList_setIfInBounds, Array.toList_setIfInBounds]
  refine swap_filter p _ j _ _ (by simp) (by simp [hj]) fun h1 h2 => ?_
  rw [hp _ _ h2 h1] at h
  cases h

theorem inner_filter (a : Nat) : ∀ (j : Nat) (d : Array α), j < d.size → (insInner lt a j d).toList.filter p = d.toList.filter p
  | 0, _, _ => rfl
  | j + 1, d, hj => by
    rw [insInner]
    split
    · rename_i h
      have h' : lt d[j + 1]! d[j]! = true := by
        have := (Bool.and_eq_true _ _).mp h
        exact this.2
      rw [inner_filter a j (swp d (j + 1) j) (by simp [swp]; omega)]
      exact swp_filter lt p hp d j hj h'
    · rfl

omit hp in
theorem inner_size (a : Nat) : ∀ (j : Nat) (d : Array α), (insInner lt a j d).size = d.size
  | 0, _ => rfl
  | j + 1, d => by
    rw [insInner]
    split
    · rw [inner_size a j]; simp [swp]
    · rfl

theorem outer_filter (a b : Nat) : ∀ (n i : Nat) (d : Array α), b - i = n → b ≤ d.size → (insOuter lt a b i d).toList.filter p = d.toList.filter p
  | n, i, d, hn, hb => by
    rw [insOuter]
    split
    · rename_i h
      match n, hn with
      | 0, hn => omega
      | n + 1, hn =>
        rw [outer_filter a b n (i + 1) _ (by omega) (by rw [inner_size lt]; exact hb)]
        exact inner_filter lt p hp a i d (by omega)
    · rfl
end

def byName (n : ByteArray) (x : FC) : Bool := decide (x.nm = n)

/-- the sort is stable: of one name the fields stay in their order -/
theorem sortF_filter (d : Array FC) (n : ByteArray) : (sortF d).toList.filter (byName n) = d.toList.filter (byName n) := by
  refine outer_filter (ltOf FC.cf) (byName n) (fun x y hx hy => ?_) 0 d.size _ 1 d rfl (Nat.le_refl _)
  have hx' : x.nm = n := of_decide_eq_true hx
  have hy' : y.nm = n := of_decide_eq_true hy
  have h := cf_swo.irrefl x
  unfold ltOf FC.cf at h ⊢
  rw [hx'] at h ⊢
  rw [hy']
  exact h

theorem lastsTo_in (D : Array FC) (k : Nat) (hk : k < D.size) (hl : k + 1 = D.size ∨ ∃ h2 : k + 1 < D.size, (D[k + 1]).nm ≠ (D[k]).nm) : ∀ i, k < i → D[k] ∈ lastsTo D i
  | 0, h => absurd h (Nat.not_lt_zero _)
  | i + 1, h => by
    rw [lastsTo]
    by_cases e : k = i
    · subst e
      rw [dif_pos hk, if_pos hl]
      exact List.mem_append.2 (.inr (List.mem_singleton.2 rfl))
    · have ih := lastsTo_in D k hk hl i (by omega)
      split
      · split
        · exact List.mem_append.2 (.inl ih)
        · exact ih
      · exact ih

theorem last_from (D : Array FC) : ∀ n i (hi : i < D.size), D.size - i = n → ∃ y ∈ lastsTo D D.size, y.nm = D[i].nm
  | 0, i, hi, hn => by omega
  | n + 1, i, hi, hn => by
    by_cases h1 : i + 1 = D.size
    · exact ⟨_, lastsTo_in D i hi (.inl h1) _ hi, rfl⟩
    · have h2 : i + 1 < D.size := by omega
      by_cases h3 : (D[i + 1]).nm = (D[i]).nm
      · obtain ⟨y, hy, e⟩ := last_from D n (i + 1) h2 (by omega)
        exact ⟨y, hy, e.trans h3⟩
      · exact ⟨_, lastsTo_in D i hi (.inr ⟨h2, h3⟩) _ hi, rfl⟩

/-- every name that came is kept -/
theorem kept_has {d : Array FC} {x : FC} (h : x ∈ d) : ∃ y ∈ keptF d, y.nm = x.nm := by
  have h1 : x ∈ sortF d := Array.mem_toList_iff.1 ((sortF_perm d).mem_iff.2 (Array.mem_toList_iff.2 h))
  obtain ⟨i, hi, rfl⟩ := Array.getElem_of_mem h1
  obtain ⟨y, hy, e⟩ := last_from (sortF d) _ i hi rfl
  rw [sortF_size] at hy
  exact ⟨y, hy, e⟩

/-- and of each name the last one that came -/
theorem kept_last {d : Array FC} {x : FC} (h : x ∈ keptF d) : (d.toList.filter (byName x.nm)).getLast? = some x := by
  obtain ⟨k, hk, _, rfl, hl⟩ := lastsTo_at _ _ x h
  rw [← sortF_filter, ← List.take_append_drop (k + 1) (sortF d).toList, List.filter_append]
  have hk' : k < (sortF d).toList.length := by simpa using hk
  have e1 : (sortF d).toList.take (k + 1) = (sortF d).toList.take k ++ [(sortF d)[k]] := by
    rw [List.take_add_one, List.getElem?_eq_getElem hk', Array.getElem_toList]; rfl
  have e2 : ((sortF d).toList.drop (k + 1)).filter (byName (sortF d)[k].nm) = [] := by
    refine List.filter_eq_nil_iff.2 fun y hy hn => ?_
    obtain ⟨i, hi, rfl⟩ := List.getElem_of_mem hy
    have hi' : i < (sortF d).size - (k + 1) := by simpa using hi
    have hn' : ((sortF d).toList.drop (k + 1))[i].nm = (sortF d)[k].nm := of_decide_eq_true hn
    rw [List.getElem_drop, Array.getElem_toList] at hn'
    rcases hl with hl | ⟨h2, hne⟩
    · omega
    · have h3 := sortF_le d (i := k) (j := k + 1) hk h2 (by omega)
      have h4 := sortF_le d (i := k + 1) (j := k + 1 + i) h2 (by omega) (by omega)
      rw [hn'] at h4
      rcases lt_tri (sortF d)[k].nm.data.toList (sortF d)[k + 1].nm.data.toList with g | g | g
      · exact h4 g
      · exact hne (ByteArray.ext (Array.toList_inj.1 g)).symm
      · exact h3 g
  rw [e2, List.append_nil, e1, List.filter_append]
  have e3 : [(sortF d)[k]].filter (byName (sortF d)[k].nm) = [(sortF d)[k]] := by simp [byName]
  rw [e3, List.getLast?_concat]

end Go.Proofs.Ytacphlceggbfcaa
end

section
section
namespace Go.Proofs.Ytacphlceggbfcaa

/-- the last value of a name -/
def lastW (fs : List Fd) (n : ByteArray) : Option V := ((fs.filter (fun p => decide (p.1 = n))).getLast?).map (·.2)

def riseFd (p q : Fd) : Prop := p.1.data.toList < q.1.data.toList

def IsKept (fs out : List Fd) : Prop := out.Pairwise riseFd ∧ ∀ n v, (n, v) ∈ out ↔ lastW fs n = some v

theorem rise_unique : ∀ (a b : List Fd), a.Pairwise riseFd → b.Pairwise riseFd → (∀ x, x ∈ a ↔ x ∈ b) → a = b
  | [], [], _, _, _ => rfl
  | [], y :: b, _, _, h => absurd ((h y).2 (by simp)) (by simp)
  | x :: a, [], _, _, h => absurd ((h x).1 (by simp)) (by simp)
  | x :: a, y :: b, ha, hb, h => by
    rw [List.pairwise_cons] at ha hb
    have hxy : x = y := by
      rcases List.mem_cons.1 ((h x).1 (by simp)) with e | e
      · exact e
      · rcases List.mem_cons.1 ((h y).2 (by simp)) with e2 | e2
        · exact e2.symm
        · exact absurd (List.lt_trans (hb.1 x e) (ha.1 y e2)) (lt_irr _)
    subst hxy
    rw [rise_unique a b ha.2 hb.2 fun z => ?_]
    constructor
    · intro hz
      rcases List.mem_cons.1 ((h z).1 (by simp [hz])) with e | e
      · subst e; exact absurd (ha.1 z hz) (lt_irr _)
      · exact e
    · intro hz
      rcases List.mem_cons.1 ((h z).2 (by simp [hz])) with e | e
      · subst e; exact absurd (hb.1 z hz) (lt_irr _)
      · exact e

theorem IsKept.one {fs a b : List Fd} (ha : IsKept fs a) (hb : IsKept fs b) : a = b :=
  rise_unique a b ha.1 hb.1 fun x => by
    obtain ⟨n, v⟩ := x
    rw [ha.2, hb.2]

theorem filter_fd (d : Array FC) (n : ByteArray) : ((d.map FC.fd).toList).filter (fun p => decide (p.1 = n)) = (d.toList.filter (byName n)).map FC.fd := by
  rw [Array.toList_map, List.filter_map]
  rfl

theorem lastW_of (d : Array FC) (n : ByteArray) : lastW ((d.map FC.fd).toList) n = ((d.toList.filter (byName n)).getLast?).map (·.v) := by
  unfold lastW
  rw [filter_fd, List.getLast?_map]
  cases (d.toList.filter (byName n)).getLast? <;> rfl

theorem kept_isKept (d : Array FC) : IsKept ((d.map FC.fd).toList) ((keptF d).map FC.fd) := by
  refine ⟨List.pairwise_map.2 (kept_rise d), fun n v => ?_⟩
  rw [lastW_of, List.mem_map]
  constructor
  · rintro ⟨x, hx, e⟩
    have e1 : x.nm = n := congrArg Prod.fst e
    have e2 : x.v = v := congrArg Prod.snd e
    rw [← e1, kept_last hx, ← e2]; rfl
  · intro h
    rw [Option.map_eq_some_iff] at h
    obtain ⟨x, hx, e⟩ := h
    have hm := List.mem_of_getLast? hx
    obtain ⟨hm1, hm2⟩ := List.mem_filter.1 hm
    have hn : x.nm = n := of_decide_eq_true hm2
    obtain ⟨y, hy, hyn⟩ := kept_has (Array.mem_toList_iff.1 hm1)
    have hl := kept_last hy
    rw [hyn, hn, hx] at hl
    obtain rfl := Option.some.inj hl
    exact ⟨x, hy, by rw [← hn, ← e]; rfl⟩

/-- a field into a row whose names rise, in place of the one that has its name -/
def insK (p : Fd) : List Fd → List Fd
  | [] => [p]
  | q :: l => if p.1 = q.1 then p :: l else if p.1.data.toList < q.1.data.toList then p :: q :: l else q :: insK p l

def keptL (fs : List Fd) : List Fd := fs.foldl (fun out p => insK p out) []

theorem insK_mem (p : Fd) : ∀ (l : List Fd) (x : Fd), x ∈ insK p l → x = p ∨ x ∈ l
  | [], x, h => by simp [insK] at h; exact .inl h
  | q :: l, x, h => by
    unfold insK at h
    split at h
    · rcases List.mem_cons.1 h with e | e
      · exact .inl e
      · exact .inr (by simp [e])
    · split at h
      · rcases List.mem_cons.1 h with e | e
        · exact .inl e
        · exact .inr e
      · rcases List.mem_cons.1 h with e | e
        · exact .inr (by simp [e])
        · rcases insK_mem p l x e with e | e
          · exact .inl e
          · exact .inr (by simp [e])

theorem insK_rise (p : Fd) : ∀ (l : List Fd), l.Pairwise riseFd → (insK p l).Pairwise riseFd
  | [], _ => by simp [insK]
  | q :: l, h => by
    rw [List.pairwise_cons] at h
    unfold insK
    split
    · rename_i e
      refine List.pairwise_cons.2 ⟨fun x hx => ?_, h.2⟩
      have := h.1 x hx
      unfold riseFd at this ⊢
      rwa [e]
    · split
      · rename_i hlt
        refine List.pairwise_cons.2 ⟨fun x hx => ?_, List.pairwise_cons.2 h⟩
        rcases List.mem_cons.1 hx with rfl | hx
        · exact hlt
        · exact List.lt_trans hlt (h.1 x hx)
      · rename_i hne hnl
        refine List.pairwise_cons.2 ⟨fun x hx => ?_, insK_rise p l h.2⟩
        rcases insK_mem p l x hx with rfl | hx
        · rcases lt_tri x.1.data.toList q.1.data.toList with g | g | g
          · exact absurd g hnl
          · exact absurd (ByteArray.ext (Array.toList_inj.1 g)) hne
          · exact g
        · exact h.1 x hx

theorem insK_iff (p : Fd) : ∀ (l : List Fd), l.Pairwise riseFd → ∀ x, x ∈ insK p l ↔ x = p ∨ (x ∈ l ∧ x.1 ≠ p.1)
  | [], _, x => by simp [insK]
  | q :: l, h, x => by
    rw [List.pairwise_cons] at h
    unfold insK
    split
    · rename_i e
      rw [List.mem_cons, List.mem_cons]
      constructor
      · rintro (h1 | h1)
        · exact .inl h1
        · refine .inr ⟨.inr h1, fun e2 => ?_⟩
          have := h.1 x h1
          unfold riseFd at this
          rw [e2, e] at this
          exact lt_irr _ this
      · rintro (h1 | ⟨h1 | h1, h2⟩)
        · exact .inl h1
        · subst h1; exact absurd e.symm h2
        · exact .inr h1
    · split
      · rename_i hne hlt
        rw [List.mem_cons]
        constructor
        · rintro (h1 | h1)
          · exact .inl h1
          · refine .inr ⟨h1, fun e2 => ?_⟩
            rcases List.mem_cons.1 h1 with rfl | h1
            · exact hne e2.symm
            · have := List.lt_trans hlt (h.1 x h1)
              rw [e2] at this
              exact lt_irr _ this
        · rintro (h1 | ⟨h1, _⟩)
          · exact .inl h1
          · exact .inr h1
      · rename_i hne hnl
        rw [List.mem_cons, List.mem_cons, insK_iff p l h.2 x]
        constructor
        · rintro (h1 | h1 | ⟨h1, h2⟩)
          · subst h1; exact .inr ⟨.inl rfl, fun e => hne e.symm⟩
          · exact .inl h1
          · exact .inr ⟨.inr h1, h2⟩
        · rintro (h1 | ⟨h1 | h1, h2⟩)
          · exact .inr (.inl h1)
          · exact .inl h1
          · exact .inr (.inr ⟨h1, h2⟩)

theorem keptL_append (fs : List Fd) (p : Fd) : keptL (fs ++ [p]) = insK p (keptL fs) := by unfold keptL; rw [List.foldl_append]; rfl

theorem lastW_append (fs : List Fd) (p : Fd) (n : ByteArray) : lastW (fs ++ [p]) n = if p.1 = n then some p.2 else lastW fs n := by
  unfold lastW
  rw [List.filter_append]
  by_cases h : p.1 = n
  · rw [if_pos h]; simp [h]
  · rw [if_neg h]; simp [h]

theorem keptL_isKept' : ∀ (k : Nat) (fs : List Fd), fs.length = k → IsKept fs (keptL fs)
  | 0, fs, h => by
    obtain rfl := List.eq_nil_of_length_eq_zero h
    exact ⟨List.Pairwise.nil, fun n v => by simp [keptL, lastW]⟩
  | k + 1, fs, h => by
    have hne : fs ≠ [] := by intro e; rw [e] at h; cases h
    have e := List.dropLast_concat_getLast hne
    have ih := keptL_isKept' k fs.dropLast (by simp [h])
    generalize fs.dropLast = a at e ih
    generalize fs.getLast hne = p at e
    subst e
    rw [keptL_append]
    refine ⟨insK_rise p _ ih.1, fun n v => ?_⟩
    rw [insK_iff p _ ih.1, lastW_append]
    by_cases hp : p.1 = n
    · rw [if_pos hp]
      constructor
      · rintro (h1 | ⟨_, h2⟩)
        · rw [← h1]
        · exact absurd hp.symm h2
      · intro h1
        refine .inl ?_
        rw [← hp, ← Option.some.inj h1]
    · rw [if_neg hp, ← ih.2]
      constructor
      · rintro (h1 | ⟨h1, _⟩)
        · exact absurd (congrArg Prod.fst h1).symm hp
        · exact h1
      · intro h1
        exact .inr ⟨h1, fun e => hp e.symm⟩

theorem keptL_isKept (fs : List Fd) : IsKept fs (keptL fs) := keptL_isKept' _ fs rfl

theorem kept_is (d : Array FC) : (keptF d).map FC.fd = keptL ((d.map FC.fd).toList) := (kept_isKept d).one (keptL_isKept _)

def rvK (k : Nat) (y : Bool) (n : Int) (t : ByteArray) (l : List V) (f : List Fd) : V :=
  if k = 1 then V.ofBool y else if k = 2 then V.ofInt n else if k = 3 then V.ofText t else if k = 4 then V.ofList l else if k = 5 then V.ofMap (keptL f) else V.null

mutual
/-- what the law's Right makes of a value -/
def V.rv : V → V
  | .mk k y n t l f => rvK ((k % 18446744073709551616).toNat % 6) y n t (rvL l) (rvF f)
def rvL : List V → List V
  | [] => []
  | v :: l => v.rv :: rvL l
def rvF : List (ByteArray × V) → List (ByteArray × V)
  | [] => []
  | p :: l => (p.1, V.rv p.2) :: rvF l
end

theorem rvL_map : ∀ l : List V, rvL l = l.map V.rv
  | [] => rfl
  | v :: l => by rw [rvL, rvL_map l]; rfl
theorem rvF_map : ∀ l : List Fd, rvF l = l.map fun p => (p.1, V.rv p.2)
  | [] => rfl
  | p :: l => by rw [rvF, rvF_map l]; rfl

end Go.Proofs.Ytacphlceggbfcaa
end

section
namespace Go.Proofs.Ytacphlceggbfcaa
open Go.RowKit

theorem oper_app_v (W : World) (H : Nat) (hH : W.heap.size = H) {o : Oper} {a : Act} {K : Act → World → Prop} {Q : Exit → Act → World → Prop} (s x : Operand)
    (ho : o.op = .call { callee := .builtin .append, args := #[s, x], argTypes := #[23, 23] })
    (B : Nat) (vv : Value) (vs : List V) (hs : a.eval s = vv) (hrow : VRow W B vv vs) (v : V) (lv fv : Value) (hlv : ∃ a c, lv = .slice a v.list.length c) (hfv : ∃ a c, fv = .slice a v.fields.length c) (hat : v.At W (fun x => B ≤ x ∧ vv.ownBlock ≠ some x) lv fv)
    (cs : Array Value) (hcs : cs = (v.cells lv fv).toArray) (c : Nat) (hx : a.eval x = .slice (some ⟨H, 0, none⟩) 1 c) (h63 : vs.length ≤ 1000000) (hbase : B ≤ W.heap.size)
    (h : ∀ vv' w', VRow w' B vv' (vs ++ [v]) → Up W vv w' vv' → K (a.put o.dst vv') w') :
    o.wp Try.prog a (W.alloc (.cells cs 26)) K Q := by
  subst hH hcs
  obtain ⟨i, hi, hz, hi1, hi2⟩ := info_parts infoV
  obtain ⟨old, hown, hold⟩ := hrow
  have hlen : (v.cells lv fv).length = 6 := rfl
  have hcl := hown.1
  have hn : ∀ j u, (v.cells lv fv)[j]? = some u → (W.alloc (.cells (v.cells lv fv).toArray 26)).cell? ((⟨W.heap.size, 0, none⟩ : Addr).add j) = some u := by
    intro j u hj
    have e : ((⟨W.heap.size, 0, none⟩ : Addr).add j) = ⟨W.heap.size, j, none⟩ := by unfold Addr.add; by_cases h0 : j = 0 <;> simp [h0]
    rw [e, cell_of_row (W.alloc (.cells (v.cells lv fv).toArray 26)) W.heap.size j (v.cells lv fv).toArray 26 (0, 0) (heap_alloc_new W _)]
    simpa using hj
  obtain ⟨al, cl, rfl⟩ := hlv
  obtain ⟨af, cf, rfl⟩ := hfv
  obtain ⟨v', w', hr, ho', hu⟩ := run_app (P := Try.prog) (W.alloc (.cells (v.cells _ _).toArray 26)) B 23 o.type 26 i _ 6 88 Try.underlying23 hi hz hi1 hi2 rfl (by decide) vv vs.length old (hown.alloc _)
    ⟨W.heap.size, 0, none⟩ 1 c (v.cells _ _) hlen hn (by intro u hu; simp [V.cells] at hu; rcases hu with rfl | rfl | rfl | rfl | rfl | rfl <;> rfl) (by unfold maxLen; omega) (by omega) (by simp; omega)
  unfold Oper.wp execOp
  simp only [ho, resolve, invoke, builtin, Sem.run_bind, Sem.run_pure, Result.andThen_ok, List.map_toArray, List.map_cons, List.map_nil, hs, hx, hr]
  have hu' := hu.alloc
  have hgr := hu'.1
  have hne : ∀ b, b < W.heap.size → vv.ownBlock ≠ some b → v'.ownBlock ≠ some b := fun b hb hnb e => by
    rcases hu'.2 with e2 | e2
    · rw [e2] at e; exact hnb e
    · have := e2 b e; omega
  refine (h v' w' ⟨old ++ v.cells _ _, by rw [List.length_append]; exact ho', fun j hj => ?_⟩ hu')
  by_cases hjl : j < vs.length
  · obtain ⟨l1, f1, g1, g2⟩ := hold j hjl
    refine ⟨l1, f1, fun q u hq => ?_, ?_⟩
    · rw [List.getElem_append_left hjl] at hq
      have h1 := g1 q u hq
      rw [List.getElem?_append_left (List.getElem?_eq_some_iff.1 h1).1]
      exact h1
    · rw [List.getElem_append_left hjl]
      exact V.At.move (fun b hS hlt => ⟨⟨hS.1, hne b hlt hS.2⟩, hgr.block b hlt (fun e => hS.2 e.symm)⟩) hgr.size _ (Nat.le_refl _) g2
  · obtain rfl : j = vs.length := by simp at hj; omega
    refine ⟨.slice al v.list.length cl, .slice af v.fields.length cf, fun q u hq => ?_, ?_⟩
    · rw [List.getElem_append_right (Nat.le_refl _)] at hq
      rw [List.getElem?_append_right (by rw [hcl]; omega), hcl]
      simp only [Nat.sub_self, List.getElem_cons_zero] at hq
      rw [show vs.length * 6 + q - vs.length * 6 = q by omega]
      exact hq
    · rw [List.getElem_append_right (Nat.le_refl _)]
      simp only [Nat.sub_self, List.getElem_cons_zero]
      exact V.At.move (fun b hS hlt => ⟨⟨hS.1, hne b hlt hS.2⟩, hgr.block b hlt (fun e => hS.2 e.symm)⟩) hgr.size _ (Nat.le_refl _) hat


theorem oper_app_f (W : World) (H : Nat) (hH : W.heap.size = H) {o : Oper} {a : Act} {K : Act → World → Prop} {Q : Exit → Act → World → Prop} (s x : Operand)
    (ho : o.op = .call { callee := .builtin .append, args := #[s, x], argTypes := #[24, 24] })
    (B : Nat) (vv : Value) (vs : List Fd) (hs : a.eval s = vv) (hrow : FRow W B vv vs) (v : Fd) (lv fv : Value) (hlv : ∃ a c, lv = .slice a v.2.list.length c) (hfv : ∃ a c, fv = .slice a v.2.fields.length c) (hat : v.2.At W (fun x => B ≤ x ∧ vv.ownBlock ≠ some x) lv fv)
    (cs : Array Value) (hcs : cs = (fcells v lv fv).toArray) (c : Nat) (hx : a.eval x = .slice (some ⟨H, 0, none⟩) 1 c) (h63 : vs.length ≤ 1000000) (hbase : B ≤ W.heap.size)
    (h : ∀ vv' w', FRow w' B vv' (vs ++ [v]) → Up W vv w' vv' → K (a.put o.dst vv') w') :
    o.wp Try.prog a (W.alloc (.cells cs 68)) K Q := by
  subst hH hcs
  obtain ⟨i, hi, hz, hi1, hi2⟩ := info_parts infoF
  obtain ⟨old, hown, hold⟩ := hrow
  have hlen : (fcells v lv fv).length = 7 := rfl
  have hcl := hown.1
  have hn : ∀ j u, (fcells v lv fv)[j]? = some u → (W.alloc (.cells (fcells v lv fv).toArray 68)).cell? ((⟨W.heap.size, 0, none⟩ : Addr).add j) = some u := by
    intro j u hj
    have e : ((⟨W.heap.size, 0, none⟩ : Addr).add j) = ⟨W.heap.size, j, none⟩ := by unfold Addr.add; by_cases h0 : j = 0 <;> simp [h0]
    rw [e, cell_of_row (W.alloc (.cells (fcells v lv fv).toArray 68)) W.heap.size j (fcells v lv fv).toArray 68 (0, 0) (heap_alloc_new W _)]
    simpa using hj
  obtain ⟨al, cl, rfl⟩ := hlv
  obtain ⟨af, cf, rfl⟩ := hfv
  obtain ⟨v', w', hr, ho', hu⟩ := run_app (P := Try.prog) (W.alloc (.cells (fcells v _ _).toArray 68)) B 24 o.type 68 i _ 7 104 Try.underlying24 hi hz hi1 hi2 rfl (by decide) vv vs.length old (hown.alloc _)
    ⟨W.heap.size, 0, none⟩ 1 c (fcells v _ _) hlen hn (by intro u hu; simp [fcells, V.cells] at hu; rcases hu with rfl | rfl | rfl | rfl | rfl | rfl | rfl <;> rfl) (by unfold maxLen; omega) (by omega) (by simp; omega)
  unfold Oper.wp execOp
  simp only [ho, resolve, invoke, builtin, Sem.run_bind, Sem.run_pure, Result.andThen_ok, List.map_toArray, List.map_cons, List.map_nil, hs, hx, hr]
  have hu' := hu.alloc
  have hgr := hu'.1
  have hne : ∀ b, b < W.heap.size → vv.ownBlock ≠ some b → v'.ownBlock ≠ some b := fun b hb hnb e => by
    rcases hu'.2 with e2 | e2
    · rw [e2] at e; exact hnb e
    · have := e2 b e; omega
  refine (h v' w' ⟨old ++ fcells v _ _, by rw [List.length_append]; exact ho', fun j hj => ?_⟩ hu')
  by_cases hjl : j < vs.length
  · obtain ⟨l1, f1, g1, g2⟩ := hold j hjl
    refine ⟨l1, f1, fun q u hq => ?_, ?_⟩
    · rw [List.getElem_append_left hjl] at hq
      have h1 := g1 q u hq
      rw [List.getElem?_append_left (List.getElem?_eq_some_iff.1 h1).1]
      exact h1
    · rw [List.getElem_append_left hjl]
      exact V.At.move (fun b hS hlt => ⟨⟨hS.1, hne b hlt hS.2⟩, hgr.block b hlt (fun e => hS.2 e.symm)⟩) hgr.size _ (Nat.le_refl _) g2
  · obtain rfl : j = vs.length := by simp at hj; omega
    refine ⟨.slice al v.2.list.length cl, .slice af v.2.fields.length cf, fun q u hq => ?_, ?_⟩
    · rw [List.getElem_append_right (Nat.le_refl _)] at hq
      rw [List.getElem?_append_right (by rw [hcl]; omega), hcl]
      simp only [Nat.sub_self, List.getElem_cons_zero] at hq
      rw [show vs.length * 7 + q - vs.length * 7 = q by omega]
      exact hq
    · rw [List.getElem_append_right (Nat.le_refl _)]
      simp only [Nat.sub_self, List.getElem_cons_zero]
      exact V.At.move (fun b hS hlt => ⟨⟨hS.1, hne b hlt hS.2⟩, hgr.block b hlt (fun e => hS.2 e.symm)⟩) hgr.size _ (Nat.le_refl _) hat


theorem run_app_v (W : World) (B : Nat) (vv : Value) (vs : List V) (hrow : VRow W B vv vs) (v : V) (lv fv : Value) (hlv : ∃ a c, lv = .slice a v.list.length c) (hfv : ∃ a c, fv = .slice a v.fields.length c) (hat : v.At W (fun x => B ≤ x ∧ vv.ownBlock ≠ some x) lv fv)
    (c : Nat) (h63 : vs.length ≤ 1000000) (hbase : B ≤ W.heap.size) :
    ∃ vv' w', (Builtin.append_ #[23, 23] 23 #[vv, .slice (some ⟨W.heap.size, 0, none⟩) 1 c]).run Try.prog (W.alloc (.cells (v.cells lv fv).toArray 26)) = .ok vv' w' ∧ VRow w' B vv' (vs ++ [v]) ∧ Up W vv w' vv' := by
  obtain ⟨i, hi, hz, hi1, hi2⟩ := info_parts infoV
  obtain ⟨old, hown, hold⟩ := hrow
  have hlen : (v.cells lv fv).length = 6 := rfl
  have hcl := hown.1
  have hn : ∀ j u, (v.cells lv fv)[j]? = some u → (W.alloc (.cells (v.cells lv fv).toArray 26)).cell? ((⟨W.heap.size, 0, none⟩ : Addr).add j) = some u := by
    intro j u hj
    have e : ((⟨W.heap.size, 0, none⟩ : Addr).add j) = ⟨W.heap.size, j, none⟩ := by unfold Addr.add; by_cases h0 : j = 0 <;> simp [h0]
    rw [e, cell_of_row (W.alloc (.cells (v.cells lv fv).toArray 26)) W.heap.size j (v.cells lv fv).toArray 26 (0, 0) (heap_alloc_new W _)]
    simpa using hj
  obtain ⟨al, cl, rfl⟩ := hlv
  obtain ⟨af, cf, rfl⟩ := hfv
  obtain ⟨v', w', hr, ho', hu⟩ := run_app (P := Try.prog) (W.alloc (.cells (v.cells _ _).toArray 26)) B 23 23 26 i _ 6 88 Try.underlying23 hi hz hi1 hi2 rfl (by decide) vv vs.length old (hown.alloc _)
    ⟨W.heap.size, 0, none⟩ 1 c (v.cells _ _) hlen hn (by intro u hu; simp [V.cells] at hu; rcases hu with rfl | rfl | rfl | rfl | rfl | rfl <;> rfl) (by unfold maxLen; omega) (by omega) (by simp; omega)
  have hu' := hu.alloc
  have hgr := hu'.1
  have hne : ∀ b, b < W.heap.size → vv.ownBlock ≠ some b → v'.ownBlock ≠ some b := fun b hb hnb e => by
    rcases hu'.2 with e2 | e2
    · rw [e2] at e; exact hnb e
    · have := e2 b e; omega
  refine ⟨v', w', hr, ⟨old ++ v.cells _ _, by rw [List.length_append]; exact ho', fun j hj => ?_⟩, hu'⟩
  by_cases hjl : j < vs.length
  · obtain ⟨l1, f1, g1, g2⟩ := hold j hjl
    refine ⟨l1, f1, fun q u hq => ?_, ?_⟩
    · rw [List.getElem_append_left hjl] at hq
      have h1 := g1 q u hq
      rw [List.getElem?_append_left (List.getElem?_eq_some_iff.1 h1).1]
      exact h1
    · rw [List.getElem_append_left hjl]
      exact V.At.move (fun b hS hlt => ⟨⟨hS.1, hne b hlt hS.2⟩, hgr.block b hlt (fun e => hS.2 e.symm)⟩) hgr.size _ (Nat.le_refl _) g2
  · obtain rfl : j = vs.length := by simp at hj; omega
    refine ⟨.slice al v.list.length cl, .slice af v.fields.length cf, fun q u hq => ?_, ?_⟩
    · rw [List.getElem_append_right (Nat.le_refl _)] at hq
      rw [List.getElem?_append_right (by rw [hcl]; omega), hcl]
      simp only [Nat.sub_self, List.getElem_cons_zero] at hq
      rw [show vs.length * 6 + q - vs.length * 6 = q by omega]
      exact hq
    · rw [List.getElem_append_right (Nat.le_refl _)]
      simp only [Nat.sub_self, List.getElem_cons_zero]
      exact V.At.move (fun b hS hlt => ⟨⟨hS.1, hne b hlt hS.2⟩, hgr.block b hlt (fun e => hS.2 e.symm)⟩) hgr.size _ (Nat.le_refl _) hat


theorem run_app_f (W : World) (B : Nat) (vv : Value) (vs : List Fd) (hrow : FRow W B vv vs) (v : Fd) (lv fv : Value) (hlv : ∃ a c, lv = .slice a v.2.list.length c) (hfv : ∃ a c, fv = .slice a v.2.fields.length c) (hat : v.2.At W (fun x => B ≤ x ∧ vv.ownBlock ≠ some x) lv fv)
    (c : Nat) (h63 : vs.length ≤ 1000000) (hbase : B ≤ W.heap.size) :
    ∃ vv' w', (Builtin.append_ #[24, 24] 24 #[vv, .slice (some ⟨W.heap.size, 0, none⟩) 1 c]).run Try.prog (W.alloc (.cells (fcells v lv fv).toArray 68)) = .ok vv' w' ∧ FRow w' B vv' (vs ++ [v]) ∧ Up W vv w' vv' := by
  obtain ⟨i, hi, hz, hi1, hi2⟩ := info_parts infoF
  obtain ⟨old, hown, hold⟩ := hrow
  have hlen : (fcells v lv fv).length = 7 := rfl
  have hcl := hown.1
  have hn : ∀ j u, (fcells v lv fv)[j]? = some u → (W.alloc (.cells (fcells v lv fv).toArray 68)).cell? ((⟨W.heap.size, 0, none⟩ : Addr).add j) = some u := by
    intro j u hj
    have e : ((⟨W.heap.size, 0, none⟩ : Addr).add j) = ⟨W.heap.size, j, none⟩ := by unfold Addr.add; by_cases h0 : j = 0 <;> simp [h0]
    rw [e, cell_of_row (W.alloc (.cells (fcells v lv fv).toArray 68)) W.heap.size j (fcells v lv fv).toArray 68 (0, 0) (heap_alloc_new W _)]
    simpa using hj
  obtain ⟨al, cl, rfl⟩ := hlv
  obtain ⟨af, cf, rfl⟩ := hfv
  obtain ⟨v', w', hr, ho', hu⟩ := run_app (P := Try.prog) (W.alloc (.cells (fcells v _ _).toArray 68)) B 24 24 68 i _ 7 104 Try.underlying24 hi hz hi1 hi2 rfl (by decide) vv vs.length old (hown.alloc _)
    ⟨W.heap.size, 0, none⟩ 1 c (fcells v _ _) hlen hn (by intro u hu; simp [fcells, V.cells] at hu; rcases hu with rfl | rfl | rfl | rfl | rfl | rfl | rfl <;> rfl) (by unfold maxLen; omega) (by omega) (by simp; omega)
  have hu' := hu.alloc
  have hgr := hu'.1
  have hne : ∀ b, b < W.heap.size → vv.ownBlock ≠ some b → v'.ownBlock ≠ some b := fun b hb hnb e => by
    rcases hu'.2 with e2 | e2
    · rw [e2] at e; exact hnb e
    · have := e2 b e; omega
  refine ⟨v', w', hr, ⟨old ++ fcells v _ _, by rw [List.length_append]; exact ho', fun j hj => ?_⟩, hu'⟩
  by_cases hjl : j < vs.length
  · obtain ⟨l1, f1, g1, g2⟩ := hold j hjl
    refine ⟨l1, f1, fun q u hq => ?_, ?_⟩
    · rw [List.getElem_append_left hjl] at hq
      have h1 := g1 q u hq
      rw [List.getElem?_append_left (List.getElem?_eq_some_iff.1 h1).1]
      exact h1
    · rw [List.getElem_append_left hjl]
      exact V.At.move (fun b hS hlt => ⟨⟨hS.1, hne b hlt hS.2⟩, hgr.block b hlt (fun e => hS.2 e.symm)⟩) hgr.size _ (Nat.le_refl _) g2
  · obtain rfl : j = vs.length := by simp at hj; omega
    refine ⟨.slice al v.2.list.length cl, .slice af v.2.fields.length cf, fun q u hq => ?_, ?_⟩
    · rw [List.getElem_append_right (Nat.le_refl _)] at hq
      rw [List.getElem?_append_right (by rw [hcl]; omega), hcl]
      simp only [Nat.sub_self, List.getElem_cons_zero] at hq
      rw [show vs.length * 7 + q - vs.length * 7 = q by omega]
      exact hq
    · rw [List.getElem_append_right (Nat.le_refl _)]
      simp only [Nat.sub_self, List.getElem_cons_zero]
      exact V.At.move (fun b hS hlt => ⟨⟨hS.1, hne b hlt hS.2⟩, hgr.block b hlt (fun e => hS.2 e.symm)⟩) hgr.size _ (Nat.le_refl _) hat


end Go.Proofs.Ytacphlceggbfcaa
end

section
namespace Go.Proofs.Ytacphlceggbfcaa
open Go.RowKit

/-- what Right answers: the value, read from new blocks -/
def RvP (v : V) (w : World) (e : Ending) (w' : World) : Prop :=
  ∃ lv fv, e = .returned (.agg #[.int .i64 v.kind, .bool v.yes, .int .i64 v.num, .string v.text, lv, fv]) ∧ v.At w' (fun q => w.heap.size ≤ q) lv fv ∧ Below w.heap.size w w'

theorem none_here {w : World} {S : Nat → Prop} (k : Int) (y : Bool) (n : Int) (t : ByteArray) : (V.mk k y n t [] []).At w S (.slice none 0 0) (.slice none 0 0) :=
  V.at_iff.2 ⟨⟨none, 0, rfl, Nat.le_refl _, by unfold maxLen; omega, .inl rfl⟩, ⟨none, 0, rfl, Nat.le_refl _, by unfold maxLen; omega, .inl rfl⟩⟩

theorem kind_mod (k : Int) (m : Nat) (h : (k % 18446744073709551616) % 6 = (m : Int)) : (IntKind.u64.wrap k).tmod 6 = (m : Int) := by
  have e : IntKind.u64.wrap k = k % 18446744073709551616 := by simp [IntKind.wrap, IntKind.bits, IntKind.signed]
  rw [e, Int.tmod_eq_emod_of_nonneg (by omega), h]

theorem kind6 (k : Int) : ∃ m : Nat, m < 6 ∧ (k % 18446744073709551616) % 6 = (m : Int) ∧ (k % 18446744073709551616).toNat % 6 = m :=
  ⟨(k % 18446744073709551616).toNat % 6, by omega, by omega, rfl⟩

set_option maxHeartbeats 4000000 in
set_option maxRecDepth 100000 in
theorem rv_0 (k : Int) (y : Bool) (n : Int) (t : ByteArray) (lv fv : Value) (hm : (k % 18446744073709551616) % 6 = ((0 : Nat) : Int)) (w : World) :
    Calls Try.prog 11 #[.agg #[.int .i64 k, .bool y, .int .i64 n, .string t, lv, fv]] w (RvP (V.null) w) := by
  have hk : (IntKind.u64.wrap k).tmod 6 = 0 := kind_mod k 0 hm
  clear hm
  go_enter Try.func11, Try.ntmps11
  go_wp2
  refine bodyPost_ret (v := .agg #[.int .i64 0, .bool false, .int .i64 0, .string ⟨#[]⟩, .slice none 0 0, .slice none 0 0]) (by simp [results, Try.results11, go_sem]) rfl ⟨_, _, rfl, none_here _ _ _ _, (((Below.refl _ _).alloc (Nat.le_refl _) _).alloc (by simp) _).alloc (by simp; omega) _⟩

set_option maxHeartbeats 4000000 in
set_option maxRecDepth 100000 in
theorem rv_1 (k : Int) (y : Bool) (n : Int) (t : ByteArray) (lv fv : Value) (hm : (k % 18446744073709551616) % 6 = ((1 : Nat) : Int)) (w : World) :
    Calls Try.prog 11 #[.agg #[.int .i64 k, .bool y, .int .i64 n, .string t, lv, fv]] w (RvP (V.ofBool y) w) := by
  have hk : (IntKind.u64.wrap k).tmod 6 = 1 := kind_mod k 1 hm
  clear hm
  go_enter Try.func11, Try.ntmps11
  go_wp2
  refine bodyPost_ret (v := .agg #[.int .i64 1, .bool y, .int .i64 0, .string ⟨#[]⟩, .slice none 0 0, .slice none 0 0]) (by simp [results, Try.results11, go_sem]) rfl ⟨_, _, rfl, none_here _ _ _ _, (((Below.refl _ _).alloc (Nat.le_refl _) _).alloc (by simp) _).alloc (by simp; omega) _⟩

set_option maxHeartbeats 4000000 in
set_option maxRecDepth 100000 in
theorem rv_2 (k : Int) (y : Bool) (n : Int) (t : ByteArray) (lv fv : Value) (hm : (k % 18446744073709551616) % 6 = ((2 : Nat) : Int)) (w : World) :
    Calls Try.prog 11 #[.agg #[.int .i64 k, .bool y, .int .i64 n, .string t, lv, fv]] w (RvP (V.ofInt n) w) := by
  have hk : (IntKind.u64.wrap k).tmod 6 = 2 := kind_mod k 2 hm
  clear hm
  go_enter Try.func11, Try.ntmps11
  go_wp2
  refine bodyPost_ret (v := .agg #[.int .i64 2, .bool false, .int .i64 n, .string ⟨#[]⟩, .slice none 0 0, .slice none 0 0]) (by simp [results, Try.results11, go_sem]) rfl ⟨_, _, rfl, none_here _ _ _ _, (((Below.refl _ _).alloc (Nat.le_refl _) _).alloc (by simp) _).alloc (by simp; omega) _⟩

set_option maxHeartbeats 4000000 in
set_option maxRecDepth 100000 in
theorem rv_3 (k : Int) (y : Bool) (n : Int) (t : ByteArray) (lv fv : Value) (hm : (k % 18446744073709551616) % 6 = ((3 : Nat) : Int)) (w : World) :
    Calls Try.prog 11 #[.agg #[.int .i64 k, .bool y, .int .i64 n, .string t, lv, fv]] w (RvP (V.ofText t) w) := by
  have hk : (IntKind.u64.wrap k).tmod 6 = 3 := kind_mod k 3 hm
  clear hm
  go_enter Try.func11, Try.ntmps11
  go_wp2
  refine bodyPost_ret (v := .agg #[.int .i64 3, .bool false, .int .i64 0, .string t, .slice none 0 0, .slice none 0 0]) (by simp [results, Try.results11, go_sem]) rfl ⟨_, _, rfl, none_here _ _ _ _, (((Below.refl _ _).alloc (Nat.le_refl _) _).alloc (by simp) _).alloc (by simp; omega) _⟩

theorem rv_small (k : Int) (y : Bool) (n : Int) (t : ByteArray) (l : List V) (f : List Fd) (lv fv : Value) (m : Nat) (hm : (k % 18446744073709551616) % 6 = (m : Int)) (hm2 : (k % 18446744073709551616).toNat % 6 = m) (h : m < 4) (w : World) :
    Calls Try.prog 11 #[.agg #[.int .i64 k, .bool y, .int .i64 n, .string t, lv, fv]] w (RvP (V.mk k y n t l f).rv w) := by
  rw [V.rv, hm2]
  match m, hm, h with
  | 0, hm, _ => exact rv_0 k y n t lv fv hm w
  | 1, hm, _ => exact rv_1 k y n t lv fv hm w
  | 2, hm, _ => exact rv_2 k y n t lv fv hm w
  | 3, hm, _ => exact rv_3 k y n t lv fv hm w

end Go.Proofs.Ytacphlceggbfcaa
end

section
namespace Go.Proofs.Ytacphlceggbfcaa
open Go.RowKit

def RightOK (N : Nat) : Prop := ∀ (v : V) (d : Int) (lv fv : Value) (w : World), v.dep ≤ N → v.few d = true → v.Is w lv fv →
  Calls Try.prog 11 #[.agg #[.int .i64 v.kind, .bool v.yes, .int .i64 v.num, .string v.text, lv, fv]] w (RvP v.rv w)

attribute [-go_sem] Builtin.append_

theorem VRow.belowR {w w' : World} {B : Nat} {vv : Value} {vs : List V} (h : VRow w B vv vs) (hb : Below w.heap.size w w') : VRow w' B vv vs := h.keep (fun b _ hlt => hb.block b hlt) hb.size

theorem VRow.own {w : World} {B : Nat} {vv : Value} {vs : List V} (h : VRow w B vv vs) : ∀ q, vv.ownBlock = some q → B ≤ q ∧ q < w.heap.size := by
  obtain ⟨cs, h1, _⟩ := h
  exact fun q hq => World.ownsRow.lt h1 q hq

theorem three_boxes (w : World) (a0 a1 a2 : Array Value) (t : TypeId) :
    Box (((w.alloc (.cells a0 t)).alloc (.cells a1 t)).alloc (.cells a2 t)) (w.heap.size + 1) t a1 ∧ Box (((w.alloc (.cells a0 t)).alloc (.cells a1 t)).alloc (.cells a2 t)) (w.heap.size + 1 + 1) t a2 ∧
      Below w.heap.size w (((w.alloc (.cells a0 t)).alloc (.cells a1 t)).alloc (.cells a2 t)) := by
  have h1 := Box.new (w.alloc (.cells a0 t)) t a1
  have h2 := Box.new ((w.alloc (.cells a0 t)).alloc (.cells a1 t)) t a2
  have e1 : (w.alloc (.cells a0 t)).heap.size = w.heap.size + 1 := by simp
  have e2 : ((w.alloc (.cells a0 t)).alloc (.cells a1 t)).heap.size = w.heap.size + 1 + 1 := by simp
  rw [e1] at h1
  rw [e2] at h2
  exact ⟨h1.alloc _, h2, (((Below.refl _ _).alloc (Nat.le_refl _) _).alloc (by rw [e1]; omega) _).alloc (by rw [e2]; omega) _⟩

set_option maxHeartbeats 4000000 in
set_option maxRecDepth 100000 in
theorem rv_list (N : Nat) (ih : RightOK N) (k : Int) (y : Bool) (n : Int) (t : ByteArray) (l : List V) (d : Int) (hd : ∀ x ∈ l, x.dep ≤ N) (hf : ∀ x ∈ l, x.few d = true) (hlen : l.length ≤ 8) (lv fv : Value) (hm : (k % 18446744073709551616) % 6 = ((4 : Nat) : Int)) (w : World) (hl : LAt w All l lv) :
    Calls Try.prog 11 #[.agg #[.int .i64 k, .bool y, .int .i64 n, .string t, lv, fv]] w (RvP (V.ofList (l.map V.rv)) w) := by
  have hk : (IntKind.u64.wrap k).tmod 6 = 4 := kind_mod k 4 hm
  obtain ⟨a, c, rfl, _, _, hcl⟩ := hl
  have HC := Lib.hid hcl
  have HD := Lib.hid hd
  have HF := Lib.hid hf
  have HLEN := Lib.hid hlen
  clear hm hcl hd hf
  go_enter Try.func11, Try.ntmps11
  go_wp2
  clear hk
  go_loopw [37] (fun cc wr => ∃ (j : Nat) (vv : Value), j ≤ l.length ∧ cc = .int .i64 j ∧ Box wr (w.heap.size + 1) 26 #[.int .i64 0, .bool false, .int .i64 0, .string ⟨#[]⟩, .slice none 0 0, .slice none 0 0] ∧
    Box wr (w.heap.size + 1 + 1) 26 #[.int .i64 4, .bool false, .int .i64 0, .string ⟨#[]⟩, vv, .slice none 0 0] ∧ VRow wr (w.heap.size + 3) vv ((l.take j).map V.rv) ∧ Below w.heap.size w wr) (fun cc _ => l.length - (intOf cc).toNat)
  case atStart =>
    obtain ⟨h1, h2, h3⟩ := three_boxes w #[.int .i64 k, .bool y, .int .i64 n, .string t, .slice a l.length c, fv] #[.int .i64 0, .bool false, .int .i64 0, .string ⟨#[]⟩, .slice none 0 0, .slice none 0 0] #[.int .i64 4, .bool false, .int .i64 0, .string ⟨#[]⟩, .slice none 0 0, .slice none 0 0] 26
    exact ⟨0, .slice none 0 0, Nat.zero_le _, rfl, h1, h2, VRow.nil _ _, h3⟩
  case round =>
    obtain ⟨j, vv, hj, rfl, hZ, hO, hrow, hb⟩ := hrel
    have hzr := hb.size
    have hOlt := hO.lt
    have hlen := HLEN.out
    by_cases hjl : j < l.length
    · have hjl' : (j : Int) < (l.length : Int) := by omega
      obtain ⟨b0, off, ea, hbl, hC⟩ : ∃ b0 off, a = some ⟨b0, off, none⟩ ∧ b0 < wr.heap.size ∧ LCells wr All b0 off l := by
        rcases HC.out with h | ⟨b0, off, ea, _, hb0, hC⟩
        · rw [h] at hjl; simp at hjl
        · exact ⟨b0, off, ea, Nat.lt_of_lt_of_le hb0 hb.size, LCells.keepAll hC hb hb0⟩
      subst ea
      obtain ⟨lx, fx, hin, hel⟩ := hC.get hjl
      have hxd := HD.out _ (List.getElem_mem hjl)
      have hxf := HF.out _ (List.getElem_mem hjl)
      have htk : (l.take (j + 1)).map V.rv = (l.take j).map V.rv ++ [(l[j]).rv] := by rw [List.take_succ_eq_append_getElem hjl, List.map_append]; rfl
      obtain ⟨x, hxe⟩ : ∃ y, y = l[j] := ⟨_, rfl⟩
      rw [← hxe] at hin hel hxd hxf htk
      have HTK := Lib.hid htk
      clear hxe hC htk
      replace hel : x.Is wr lx fx := hel
      obtain ⟨⟨px, pc, rfl⟩, ⟨py, pd, rfl⟩, _, _⟩ := hel.len
      obtain ⟨p0, p1, p2, p3, p4, p5⟩ := hin.six
      have hb1 : Below wr.heap.size wr (wr.alloc (.cells #[.int .i64 x.kind, .bool x.yes, .int .i64 x.num, .string x.text, .slice px x.list.length pc, .slice py x.fields.length pd] 26)) := (Below.refl _ wr).alloc (Nat.le_refl _) _
      have hcall := ih x d _ _ _ hxd hxf (V.At.drew (V.Is.below hel hb1))
      have HCALL := Lib.hid hcall
      have HB1 := Lib.hid hb1
      have HBW := Lib.hid hb
      have HROW := Lib.hid hrow
      obtain ⟨⟨o0, o1, o2, o3, o4, o5⟩, _⟩ := hO.six
      have HO := Lib.hid hO
      have HZ := Lib.hid hZ
      have HLT : Hid (w.heap.size + 1 + 1 < wr.heap.size) := Lib.hid hO.lt
      have HSL : Hid (∀ w3, Below (wr.alloc (.cells #[.int .i64 x.kind, .bool x.yes, .int .i64 x.num, .string x.text, .slice px x.list.length pc, .slice py x.fields.length pd] 26)).drew.heap.size (wr.alloc (.cells #[.int .i64 x.kind, .bool x.yes, .int .i64 x.num, .string x.text, .slice px x.list.length pc, .slice py x.fields.length pd] 26)).drew w3 → Below wr.heap.size wr w3 ∧ wr.heap.size + 1 ≤ w3.heap.size) := Lib.hid (fun w3 hb3 => by
        have e : (wr.alloc (.cells #[.int .i64 x.kind, .bool x.yes, .int .i64 x.num, .string x.text, .slice px x.list.length pc, .slice py x.fields.length pd] 26)).drew.heap.size = wr.heap.size + 1 := by
          show (wr.alloc (.cells #[.int .i64 x.kind, .bool x.yes, .int .i64 x.num, .string x.text, .slice px x.list.length pc, .slice py x.fields.length pd] 26)).heap.size = _
          simp
        exact ⟨hb1.drew.trans (hb3.mono (by rw [e]; omega)), by have := hb3.size; rw [e] at this; exact this⟩)
      have HO3 : Hid (∀ w3, Below (wr.alloc (.cells #[.int .i64 x.kind, .bool x.yes, .int .i64 x.num, .string x.text, .slice px x.list.length pc, .slice py x.fields.length pd] 26)).drew.heap.size (wr.alloc (.cells #[.int .i64 x.kind, .bool x.yes, .int .i64 x.num, .string x.text, .slice px x.list.length pc, .slice py x.fields.length pd] 26)).drew w3 → Box w3 (w.heap.size + 1 + 1) 26 #[.int .i64 4, .bool false, .int .i64 0, .string ⟨#[]⟩, vv, .slice none 0 0]) := Lib.hid (fun w3 hb3 => ((HSL.out w3 hb3).1.block _ HLT.out).trans HO.out)
      have HK : Hid (∀ w3 lv' fv', x.rv.At w3 (fun q => (wr.alloc (.cells #[.int .i64 x.kind, .bool x.yes, .int .i64 x.num, .string x.text, .slice px x.list.length pc, .slice py x.fields.length pd] 26)).drew.heap.size ≤ q) lv' fv' → Below (wr.alloc (.cells #[.int .i64 x.kind, .bool x.yes, .int .i64 x.num, .string x.text, .slice px x.list.length pc, .slice py x.fields.length pd] 26)).drew.heap.size (wr.alloc (.cells #[.int .i64 x.kind, .bool x.yes, .int .i64 x.num, .string x.text, .slice px x.list.length pc, .slice py x.fields.length pd] 26)).drew w3 →
          ∃ qa qc w4, (Builtin.append_ #[23, 23] 23 #[vv, .slice (some ⟨w3.heap.size, 0, none⟩) 1 1]).run Try.prog (w3.alloc (.cells #[.int .i64 x.rv.kind, .bool x.rv.yes, .int .i64 x.rv.num, .string x.rv.text, lv', fv'] 26)) = .ok (.slice qa (j + 1) qc) w4 ∧
            Box w4 (w.heap.size + 1) 26 #[.int .i64 0, .bool false, .int .i64 0, .string ⟨#[]⟩, .slice none 0 0, .slice none 0 0] ∧ Box w4 (w.heap.size + 1 + 1) 26 #[.int .i64 4, .bool false, .int .i64 0, .string ⟨#[]⟩, vv, .slice none 0 0] ∧ VRow w4 (w.heap.size + 3) (.slice qa (j + 1) qc) ((l.take j).map V.rv ++ [x.rv]) ∧ Below w.heap.size w w4) := Lib.hid (fun w3 lv' fv' hat hb3 => by
        obtain ⟨hb, hsz⟩ := HSL.out w3 hb3
        have hro := HROW.out
        have hrow3 := hro.belowR hb
        have hlt := HLT.out
        obtain ⟨vv', w4, hr, hrow4, hup⟩ := run_app_v w3 (w.heap.size + 3) vv _ hrow3 x.rv lv' fv' hat.is.len.1 hat.is.len.2.1 (hat.wider (fun q hq => ⟨by
          have e : (wr.alloc (.cells #[.int .i64 x.kind, .bool x.yes, .int .i64 x.num, .string x.text, .slice px x.list.length pc, .slice py x.fields.length pd] 26)).drew.heap.size = wr.heap.size + 1 := by
            show (wr.alloc (.cells #[.int .i64 x.kind, .bool x.yes, .int .i64 x.num, .string x.text, .slice px x.list.length pc, .slice py x.fields.length pd] 26)).heap.size = _
            simp
          rw [e] at hq; omega, fun e2 => by
          have e : (wr.alloc (.cells #[.int .i64 x.kind, .bool x.yes, .int .i64 x.num, .string x.text, .slice px x.list.length pc, .slice py x.fields.length pd] 26)).drew.heap.size = wr.heap.size + 1 := by
            show (wr.alloc (.cells #[.int .i64 x.kind, .bool x.yes, .int .i64 x.num, .string x.text, .slice px x.list.length pc, .slice py x.fields.length pd] 26)).heap.size = _
            simp
          rw [e] at hq
          have := (hro.own q e2).2
          omega⟩)) 1 (by simp; omega) (by omega)
        obtain ⟨qa, qc, rfl, _, _⟩ := hrow4.form
        have hn1 : ((l.take j).map V.rv ++ [x.rv]).length = j + 1 := by rw [List.length_append, List.length_map, List.length_take]; simp; omega
        rw [hn1] at hr hrow4 hup
        have hne : ∀ q, vv.ownBlock = some q → w.heap.size + 3 ≤ q := fun q hq => (hro.own q hq).1
        refine ⟨qa, qc, w4, hr, ?_, ?_, hrow4, ?_⟩
        · exact (hup.1.block _ (by omega) (fun e => by have := hne _ e.symm; omega)).trans ((hb.block _ (by omega)).trans HZ.out)
        · exact (hup.1.block _ (by omega) (fun e => by have := hne _ e.symm; omega)).trans (HO3.out w3 hb3)
        · exact ((HBW.out.trans (hb.mono hzr)).grown hup.1 (by omega) (fun q hq => by have := hne q hq; omega)))
      clear hin hel hcall hb1 hrow hO hZ
      go_wp2_with fail
      go_region_with ((go_at_call 11; refine HCALL.out.mono ?_; rintro e w3 ⟨lv', fv', rfl, hat, hb3⟩; obtain ⟨qa, qc, w4, hr, hZ4, hO4, hrow4, hb4⟩ := HK.out w3 lv' fv' hat hb3; obtain ⟨⟨l0, l1, rfl⟩, ⟨l2, l3, rfl⟩, _, _⟩ := hat.is.len; obtain ⟨⟨q0, q1, q2, q3, q4, q5⟩, f0, f1, f2, f3, f4, f5⟩ := hO4.six; obtain ⟨⟨r0, r1, r2, r3, r4, r5⟩, _⟩ := (HO3.out w3 hb3).six; obtain ⟨⟨s0, s1, s2, s3, s4, s5⟩, _⟩ := ((HO3.out w3 hb3).alloc (.cells #[.int .i64 x.rv.kind, .bool x.rv.yes, .int .i64 x.rv.num, .string x.rv.text, .slice l0 x.rv.list.length l1, .slice l2 x.rv.fields.length l3] 26)).six))
      all_goals
        have HE := Lib.hid (And.intro hZ4 (And.intro hO4 (And.intro hrow4 hb4)))
        clear hZ4 hO4 hrow4 hb4
        go_wp2
        go_roundw
        case rel =>
          obtain ⟨hZ4, hO4, hrow4, hb4⟩ := HE.out
          refine ⟨j + 1, .slice qa (j + 1) qc, by omega, by go_num, hZ4.setFar (by show w.heap.size + 1 ≠ w.heap.size + 1 + 1; omega) _, hO4.setSame 4 _, ?_, hb4.setCell (by show w.heap.size ≤ w.heap.size + 1 + 1; omega) _⟩
          rw [HTK.out]
          exact hrow4.keep (fun q hq _ => Below.heap_setCell _ _ _ q (by show q ≠ w.heap.size + 1 + 1; omega)) (by simp [World.setCell])
        case measure => simp [intOf]; omega
    · have hge : ¬ (j : Int) < (l.length : Int) := by omega
      obtain rfl : j = l.length := by omega
      rw [List.take_of_length_le (Nat.le_refl _)] at hrow
      obtain ⟨va, vc, rfl, _, _⟩ := hrow.form
      rw [List.length_map] at hrow hO
      have hF := Box.sets [.int .i64 4, .bool false, .int .i64 0, .string ⟨#[]⟩, .slice va l.length vc, .slice none 0 0] 0 hZ
      obtain ⟨⟨k0, k1, k2, k3, k4, k5⟩, _⟩ := Box.six (c0 := .int .i64 4) (c1 := .bool false) (c2 := .int .i64 0) (c3 := .string ⟨#[]⟩) (c4 := .slice va l.length vc) (c5 := .slice none 0 0) hF
      simp only [sets, Nat.zero_add, Nat.reduceAdd] at k0 k1 k2 k3 k4 k5
      have hb5 := Below.sets [.int .i64 4, .bool false, .int .i64 0, .string ⟨#[]⟩, .slice va l.length vc, .slice none 0 0] 0 hb (g := w.heap.size + 1) (by omega)
      have hL1 := hrow.at_
      rw [show (Value.slice va l.length vc) = .slice va (l.map V.rv).length vc by rw [List.length_map]] at *
      have hat5 : (V.ofList (l.map V.rv)).At (sets wr (w.heap.size + 1) 0 [.int .i64 4, .bool false, .int .i64 0, .string ⟨#[]⟩, .slice va (l.map V.rv).length vc, .slice none 0 0]) (fun q => w.heap.size ≤ q) (.slice va (l.map V.rv).length vc) (.slice none 0 0) :=
        V.at_iff.2 ⟨LAt.move (fun q hq _ => ⟨by omega, sets_far _ _ _ _ (by omega)⟩) (by rw [sets_size]; exact Nat.le_refl _) hL1, none, 0, rfl, Nat.le_refl _, by unfold maxLen; omega, .inl rfl⟩
      obtain ⟨⟨z0, z1, z2, z3, z4, z5⟩, s0, s1, s2, s3, s4, s5⟩ := hZ.six
      obtain ⟨⟨o0, o1, o2, o3, o4, o5⟩, _⟩ := hO.six
      rw [show (Value.slice va (l.map V.rv).length vc) = .slice va l.length vc by rw [List.length_map]] at *
      have HE := Lib.hid (And.intro hb5 hat5)
      clear hF hL1 hb hZ hO hrow hb5 hat5
      go_wp2
      refine bodyPost_ret (v := .agg #[.int .i64 4, .bool false, .int .i64 0, .string ⟨#[]⟩, .slice va l.length vc, .slice none 0 0]) (by simp [results, Try.results11, go_sem, k0, k1, k2, k3, k4, k5]) rfl ⟨_, _, rfl, HE.out.2, HE.out.1⟩

end Go.Proofs.Ytacphlceggbfcaa
end

section
namespace Go.Proofs.Ytacphlceggbfcaa

theorem insK_length (p : Fd) : ∀ l : List Fd, (insK p l).length ≤ l.length + 1
  | [] => by simp [insK]
  | q :: l => by
    unfold insK
    split
    · simp
    · split
      · simp
      · have := insK_length p l
        simp only [List.length_cons]; omega

theorem keptL_length (fs : List Fd) : (keptL fs).length ≤ fs.length := by
  have key : ∀ (k : Nat) (fs : List Fd), fs.length = k → (keptL fs).length ≤ k := by
    intro k
    induction k with
    | zero => intro fs h; obtain rfl := List.eq_nil_of_length_eq_zero h; simp [keptL]
    | succ k ih =>
      intro fs h
      have hne : fs ≠ [] := by intro e; rw [e] at h; cases h
      have e := List.dropLast_concat_getLast hne
      have h1 := ih fs.dropLast (by simp [h])
      rw [← e, keptL_append]
      have := insK_length (fs.getLast hne) (keptL fs.dropLast)
      omega
  exact key _ fs rfl

theorem keptL_mem {fs : List Fd} {x : Fd} (h : x ∈ keptL fs) : x ∈ fs := by
  have key : ∀ (k : Nat) (fs : List Fd), fs.length = k → ∀ x ∈ keptL fs, x ∈ fs := by
    intro k
    induction k with
    | zero => intro fs h x hx; obtain rfl := List.eq_nil_of_length_eq_zero h; simp [keptL] at hx
    | succ k ih =>
      intro fs h x hx
      have hne : fs ≠ [] := by intro e; rw [e] at h; cases h
      have e := List.dropLast_concat_getLast hne
      rw [← e, keptL_append] at hx
      rw [← e]
      rcases insK_mem _ _ x hx with h1 | h1
      · simp [h1]
      · exact List.mem_append.2 (.inl (ih fs.dropLast (by simp [h]) x h1))
  exact key _ fs rfl x h

theorem few_parts {k : Int} {y : Bool} {n : Int} {t : ByteArray} {l : List V} {f : List Fd} {d : Int} (h : (V.mk k y n t l f).few d = true) :
    d ≤ 6 ∧ l.length ≤ 8 ∧ f.length ≤ 8 ∧ t.size ≤ 200 ∧ fewL l (d + 1) = true ∧ fewF f (d + 1) = true := by
  rw [V.few] at h
  simpa only [Bool.and_eq_true, decide_eq_true_eq] using h

theorem few_mk {k : Int} {y : Bool} {n : Int} {t : ByteArray} {l : List V} {f : List Fd} {d : Int} (h : d ≤ 6 ∧ l.length ≤ 8 ∧ f.length ≤ 8 ∧ t.size ≤ 200 ∧ fewL l (d + 1) = true ∧ fewF f (d + 1) = true) : (V.mk k y n t l f).few d = true := by
  rw [V.few]
  simpa only [Bool.and_eq_true, decide_eq_true_eq] using h

theorem rv_few : ∀ (N : Nat) (v : V) (d : Int), v.dep ≤ N → v.few d = true → v.rv.few d = true
  | 0, v, d, hd, _ => by
    cases v
    rw [V.dep] at hd
    omega
  | N + 1, .mk k y n t l f, d, hd, h => by
    have hdl : ∀ x ∈ l, x.dep ≤ N := fun x hx => by have := dep_list (v := .mk k y n t l f) hx; omega
    have hdf : ∀ p ∈ f, p.2.dep ≤ N := fun p hp => by have := dep_fields (v := .mk k y n t l f) hp; omega
    obtain ⟨h1, h2, h3, h4, h5, h6⟩ := few_parts h
    have hL : fewL (rvL l) (d + 1) = true := by
      rw [rvL_map]
      refine fewL_iff.2 fun x hx => ?_
      obtain ⟨z, hz, rfl⟩ := List.mem_map.1 hx
      exact rv_few N z _ (hdl z hz) (fewL_iff.1 h5 z hz)
    have hF : ∀ p ∈ rvF f, p.1.size ≤ 40 ∧ p.2.few (d + 1) = true := by
      rw [rvF_map]
      intro x hx
      obtain ⟨z, hz, rfl⟩ := List.mem_map.1 hx
      obtain ⟨g1, g2⟩ := fewF_iff.1 h6 z hz
      exact ⟨g1, rv_few N z.2 _ (hdf z hz) g2⟩
    have hl : (rvL l).length ≤ 8 := by rw [rvL_map, List.length_map]; exact h2
    have hf : (keptL (rvF f)).length ≤ 8 := by
      have := keptL_length (rvF f)
      rw [rvF_map, List.length_map] at this
      rw [rvF_map]; omega
    rw [V.rv]
    unfold rvK
    have e0 : (⟨#[]⟩ : ByteArray).size ≤ 200 := by decide
    split
    · exact few_mk ⟨h1, by simp, by simp, e0, rfl, rfl⟩
    · split
      · exact few_mk ⟨h1, by simp, by simp, e0, rfl, rfl⟩
      · split
        · exact few_mk ⟨h1, by simp, by simp, h4, rfl, rfl⟩
        · split
          · exact few_mk ⟨h1, hl, by simp, e0, hL, rfl⟩
          · split
            · exact few_mk ⟨h1, by simp, hf, e0, rfl, fewF_iff.2 fun p hp => hF p (keptL_mem hp)⟩
            · exact few_mk ⟨h1, by simp, by simp, e0, rfl, rfl⟩

theorem rv_n64 : ∀ (N : Nat) (v : V), v.dep ≤ N → v.n64 → v.rv.n64
  | 0, v, hd, _ => by
    cases v
    rw [V.dep] at hd
    omega
  | N + 1, .mk k y n t l f, hd, h => by
    have hdl : ∀ x ∈ l, x.dep ≤ N := fun x hx => by have := dep_list (v := .mk k y n t l f) hx; omega
    have hdf : ∀ p ∈ f, p.2.dep ≤ N := fun p hp => by have := dep_fields (v := .mk k y n t l f) hp; omega
    obtain ⟨h1, h2, h3⟩ := h
    have z0 : Is64 0 := by unfold Is64; omega
    have hL : n64L (rvL l) := by
      rw [rvL_map]
      refine n64L_iff.2 fun x hx => ?_
      obtain ⟨z, hz, rfl⟩ := List.mem_map.1 hx
      exact rv_n64 N z (hdl z hz) (n64L_iff.1 h2 z hz)
    have hF : ∀ p ∈ rvF f, p.2.n64 := by
      rw [rvF_map]
      intro x hx
      obtain ⟨z, hz, rfl⟩ := List.mem_map.1 hx
      exact rv_n64 N z.2 (hdf z hz) (n64F_iff.1 h3 z hz)
    rw [V.rv]
    unfold rvK
    split
    · exact ⟨z0, trivial, trivial⟩
    · split
      · exact ⟨h1, trivial, trivial⟩
      · split
        · exact ⟨z0, trivial, trivial⟩
        · split
          · exact ⟨z0, hL, trivial⟩
          · split
            · exact ⟨z0, trivial, n64F_iff.2 fun p hp => hF p (keptL_mem hp)⟩
            · exact ⟨z0, trivial, trivial⟩

end Go.Proofs.Ytacphlceggbfcaa
end

section
namespace Go.Proofs.Ytacphlceggbfcaa
open Go.RowKit

attribute [-go_sem] Builtin.append_

theorem few_sm : ∀ (N : Nat) (v : V) (d : Int), v.dep ≤ N → v.few d = true → v.sm
  | 0, v, d, hd, _ => by
    cases v
    rw [V.dep] at hd
    omega
  | N + 1, .mk k y n t l f, d, hd, h => by
    have hdl : ∀ x ∈ l, x.dep ≤ N := fun x hx => by have := dep_list (v := .mk k y n t l f) hx; omega
    have hdf : ∀ p ∈ f, p.2.dep ≤ N := fun p hp => by have := dep_fields (v := .mk k y n t l f) hp; omega
    obtain ⟨_, h2, h3, _, h5, h6⟩ := few_parts h
    exact ⟨⟨by omega, by omega⟩, smL_iff.2 fun x hx => few_sm N x _ (hdl x hx) (fewL_iff.1 h5 x hx), smF_iff.2 fun p hp => few_sm N p.2 _ (hdf p hp) (fewF_iff.1 h6 p hp).2⟩

theorem FRow.belowR {w w' : World} {B : Nat} {vv : Value} {vs : List Fd} (h : FRow w B vv vs) (hb : Below w.heap.size w w') : FRow w' B vv vs := h.keep (fun b _ hlt => hb.block b hlt) hb.size

theorem FRow.own {w : World} {B : Nat} {vv : Value} {vs : List Fd} (h : FRow w B vv vs) : ∀ q, vv.ownBlock = some q → B ≤ q ∧ q < w.heap.size := by
  obtain ⟨cs, h1, _⟩ := h
  exact fun q hq => World.ownsRow.lt h1 q hq

theorem FRow.made (w : World) (B : Nat) (hB : B ≤ w.heap.size) : FRow (w.alloc (.cells #[] 68)) B (.slice (some ⟨w.heap.size, 0, none⟩) 0 0) [] :=
  ⟨[], World.ownsRow_made w #[] 0 hB (by decide) rfl, fun i h => by simp at h⟩

set_option maxHeartbeats 4000000 in
set_option maxRecDepth 100000 in
theorem rv_map (N : Nat) (ih : RightOK N) (k : Int) (y : Bool) (n : Int) (t : ByteArray) (f : List Fd) (d : Int) (hd : ∀ p ∈ f, p.2.dep ≤ N) (hf : ∀ p ∈ f, p.2.few d = true) (hlen : f.length ≤ 8) (lv fv : Value) (hm : (k % 18446744073709551616) % 6 = ((5 : Nat) : Int)) (w : World) (hl : FAt w All f fv) :
    Calls Try.prog 11 #[.agg #[.int .i64 k, .bool y, .int .i64 n, .string t, lv, fv]] w (RvP (V.ofMap (keptL (f.map (fun p : Fd => (p.1, p.2.rv))))) w) := by
  have hk : (IntKind.u64.wrap k).tmod 6 = 5 := kind_mod k 5 hm
  obtain ⟨a, c, rfl, _, _, hcl⟩ := hl
  have HC := Lib.hid hcl
  have HD := Lib.hid hd
  have HF := Lib.hid hf
  have HLEN := Lib.hid hlen
  obtain ⟨e1, e2, e3⟩ := three_boxes w #[.int .i64 k, .bool y, .int .i64 n, .string t, lv, .slice a f.length c] #[.int .i64 0, .bool false, .int .i64 0, .string ⟨#[]⟩, .slice none 0 0, .slice none 0 0] #[.int .i64 5, .bool false, .int .i64 0, .string ⟨#[]⟩, .slice none 0 0, .slice none 0 0] 26
  have hz3 : (((w.alloc (.cells #[.int .i64 k, .bool y, .int .i64 n, .string t, lv, .slice a f.length c] 26)).alloc (.cells #[.int .i64 0, .bool false, .int .i64 0, .string ⟨#[]⟩, .slice none 0 0, .slice none 0 0] 26)).alloc (.cells #[.int .i64 5, .bool false, .int .i64 0, .string ⟨#[]⟩, .slice none 0 0, .slice none 0 0] 26)).heap.size = w.heap.size + 1 + 1 + 1 := by simp
  have hmade := FRow.made (((w.alloc (.cells #[.int .i64 k, .bool y, .int .i64 n, .string t, lv, .slice a f.length c] 26)).alloc (.cells #[.int .i64 0, .bool false, .int .i64 0, .string ⟨#[]⟩, .slice none 0 0, .slice none 0 0] 26)).alloc (.cells #[.int .i64 5, .bool false, .int .i64 0, .string ⟨#[]⟩, .slice none 0 0, .slice none 0 0] 26)) (w.heap.size + 3) (by rw [hz3]; omega)
  rw [hz3] at hmade
  have HST := Lib.hid (And.intro (e1.alloc (.cells #[] 68)) (And.intro (e2.alloc (.cells #[] 68)) (And.intro hmade (e3.alloc (by rw [hz3]; omega) (.cells #[] 68)))))
  clear hm hcl hd hf e1 e2 e3 hz3 hmade
  go_enter Try.func11, Try.ntmps11
  go_wp2
  clear hk
  go_loopw [6, 55] (fun vv cc wr => ∃ (j : Nat), j ≤ f.length ∧ cc = .int .i64 j ∧ Box wr (w.heap.size + 1) 26 #[.int .i64 0, .bool false, .int .i64 0, .string ⟨#[]⟩, .slice none 0 0, .slice none 0 0] ∧
    Box wr (w.heap.size + 1 + 1) 26 #[.int .i64 5, .bool false, .int .i64 0, .string ⟨#[]⟩, .slice none 0 0, .slice none 0 0] ∧ FRow wr (w.heap.size + 3) vv ((f.take j).map (fun p : Fd => (p.1, p.2.rv))) ∧ Below w.heap.size w wr) (fun _ cc _ => f.length - (intOf cc).toNat)
  case atStart => exact ⟨0, Nat.zero_le _, rfl, HST.out.1, HST.out.2.1, HST.out.2.2.1, HST.out.2.2.2⟩
  case round =>
    clear HST
    obtain ⟨j, hj, rfl, hZ, hO, hrow, hb⟩ := hrel
    have hzr := hb.size
    have hOlt := hO.lt
    have hlen := HLEN.out
    by_cases hjl : j < f.length
    · have hjl' : (j : Int) < (f.length : Int) := by omega
      obtain ⟨b0, off, ea, hbl, hC⟩ : ∃ b0 off, a = some ⟨b0, off, none⟩ ∧ b0 < wr.heap.size ∧ FCells wr All b0 off f := by
        rcases HC.out with h | ⟨b0, off, ea, _, hb0, hC⟩
        · rw [h] at hjl; simp at hjl
        · exact ⟨b0, off, ea, Nat.lt_of_lt_of_le hb0 hb.size, FCells.keepAll hC hb hb0⟩
      subst ea
      obtain ⟨lx, fx, hin, hel⟩ := hC.get hjl
      have hxd := HD.out _ (List.getElem_mem hjl)
      have hxf := HF.out _ (List.getElem_mem hjl)
      have htk : (f.take (j + 1)).map (fun p : Fd => (p.1, p.2.rv)) = (f.take j).map (fun p : Fd => (p.1, p.2.rv)) ++ [((f[j]).1, (f[j]).2.rv)] := by rw [List.take_succ_eq_append_getElem hjl, List.map_append]; rfl
      obtain ⟨p, hpe⟩ : ∃ y, y = f[j] := ⟨_, rfl⟩
      rw [← hpe] at hin hel hxd hxf htk
      obtain ⟨nm, x⟩ := p
      have HTK := Lib.hid htk
      clear hpe hC htk
      replace hel : x.Is wr lx fx := hel
      replace hin : InAt wr b0 (off + j * 7) (.string nm :: x.cells lx fx) := hin
      replace hxd : x.dep ≤ N := hxd
      replace hxf : x.few d = true := hxf
      obtain ⟨⟨px, pc, rfl⟩, ⟨py, pd, rfl⟩, _, _⟩ := hel.len
      obtain ⟨p0, p1, p2, p3, p4, p5, p6⟩ := hin.seven
      have hb1 : Below wr.heap.size wr (wr.alloc (.cells #[.string nm, .int .i64 x.kind, .bool x.yes, .int .i64 x.num, .string x.text, .slice px x.list.length pc, .slice py x.fields.length pd] 68)) := (Below.refl _ wr).alloc (Nat.le_refl _) _
      have hcall := ih x d _ _ _ hxd hxf (V.At.drew (V.Is.below hel hb1))
      have HCALL := Lib.hid hcall
      have HBW := Lib.hid hb
      have HROW := Lib.hid hrow
      have hN : Box (wr.alloc (.cells #[.string nm, .int .i64 x.kind, .bool x.yes, .int .i64 x.num, .string x.text, .slice px x.list.length pc, .slice py x.fields.length pd] 68)).drew wr.heap.size 68 #[.string nm, .int .i64 x.kind, .bool x.yes, .int .i64 x.num, .string x.text, .slice px x.list.length pc, .slice py x.fields.length pd] := Box.new wr _ _
      have HO := Lib.hid hO
      have HZ := Lib.hid hZ
      have HNB := Lib.hid hN
      have HLT : Hid (w.heap.size + 1 + 1 < wr.heap.size) := Lib.hid hO.lt
      have HSL : Hid (∀ w3, Below (wr.alloc (.cells #[.string nm, .int .i64 x.kind, .bool x.yes, .int .i64 x.num, .string x.text, .slice px x.list.length pc, .slice py x.fields.length pd] 68)).drew.heap.size (wr.alloc (.cells #[.string nm, .int .i64 x.kind, .bool x.yes, .int .i64 x.num, .string x.text, .slice px x.list.length pc, .slice py x.fields.length pd] 68)).drew w3 → Below wr.heap.size wr w3 ∧ wr.heap.size + 1 ≤ w3.heap.size ∧ Box w3 wr.heap.size 68 #[.string nm, .int .i64 x.kind, .bool x.yes, .int .i64 x.num, .string x.text, .slice px x.list.length pc, .slice py x.fields.length pd]) := Lib.hid (fun w3 hb3 => by
        have e : (wr.alloc (.cells #[.string nm, .int .i64 x.kind, .bool x.yes, .int .i64 x.num, .string x.text, .slice px x.list.length pc, .slice py x.fields.length pd] 68)).drew.heap.size = wr.heap.size + 1 := by
          show (wr.alloc (.cells #[.string nm, .int .i64 x.kind, .bool x.yes, .int .i64 x.num, .string x.text, .slice px x.list.length pc, .slice py x.fields.length pd] 68)).heap.size = _
          simp
        exact ⟨hb1.drew.trans (hb3.mono (by rw [e]; omega)), by have := hb3.size; rw [e] at this; exact this, (hb3.block _ (by rw [e]; omega)).trans hN⟩)
      have HK : Hid (∀ w3 lv' fv', x.rv.At w3 (fun q => (wr.alloc (.cells #[.string nm, .int .i64 x.kind, .bool x.yes, .int .i64 x.num, .string x.text, .slice px x.list.length pc, .slice py x.fields.length pd] 68)).drew.heap.size ≤ q) lv' fv' → Below (wr.alloc (.cells #[.string nm, .int .i64 x.kind, .bool x.yes, .int .i64 x.num, .string x.text, .slice px x.list.length pc, .slice py x.fields.length pd] 68)).drew.heap.size (wr.alloc (.cells #[.string nm, .int .i64 x.kind, .bool x.yes, .int .i64 x.num, .string x.text, .slice px x.list.length pc, .slice py x.fields.length pd] 68)).drew w3 →
          ∃ qa qc w4, (Builtin.append_ #[24, 24] 24 #[u6, .slice (some ⟨w3.heap.size, 0, none⟩) 1 1]).run Try.prog (w3.alloc (.cells #[.string nm, .int .i64 x.rv.kind, .bool x.rv.yes, .int .i64 x.rv.num, .string x.rv.text, lv', fv'] 68)) = .ok (.slice qa (j + 1) qc) w4 ∧
            Box w4 (w.heap.size + 1) 26 #[.int .i64 0, .bool false, .int .i64 0, .string ⟨#[]⟩, .slice none 0 0, .slice none 0 0] ∧ Box w4 (w.heap.size + 1 + 1) 26 #[.int .i64 5, .bool false, .int .i64 0, .string ⟨#[]⟩, .slice none 0 0, .slice none 0 0] ∧ FRow w4 (w.heap.size + 3) (.slice qa (j + 1) qc) ((f.take j).map (fun p : Fd => (p.1, p.2.rv)) ++ [(nm, x.rv)]) ∧ Below w.heap.size w w4) := Lib.hid (fun w3 lv' fv' hat hb3 => by
        obtain ⟨hb, hsz, _⟩ := HSL.out w3 hb3
        have hro := HROW.out
        have hrow3 := hro.belowR hb
        have hlt := HLT.out
        have e : (wr.alloc (.cells #[.string nm, .int .i64 x.kind, .bool x.yes, .int .i64 x.num, .string x.text, .slice px x.list.length pc, .slice py x.fields.length pd] 68)).drew.heap.size = wr.heap.size + 1 := by
          show (wr.alloc (.cells #[.string nm, .int .i64 x.kind, .bool x.yes, .int .i64 x.num, .string x.text, .slice px x.list.length pc, .slice py x.fields.length pd] 68)).heap.size = _
          simp
        obtain ⟨vv', w4, hr, hrow4, hup⟩ := run_app_f w3 (w.heap.size + 3) u6 _ hrow3 (nm, x.rv) lv' fv' hat.is.len.1 hat.is.len.2.1 (hat.wider (fun q hq => ⟨by
          rw [e] at hq; omega, fun e2 => by
          rw [e] at hq
          have := (hro.own q e2).2
          omega⟩)) 1 (by simp; omega) (by omega)
        have hne : ∀ q, u6.ownBlock = some q → w.heap.size + 3 ≤ q := fun q hq => (hro.own q hq).1
        have hn1 : ((f.take j).map (fun p : Fd => (p.1, p.2.rv)) ++ [(nm, x.rv)]).length = j + 1 := by rw [List.length_append, List.length_map, List.length_take]; simp; omega
        obtain ⟨qa, qc, rfl, _, _⟩ := hrow4.form
        rw [hn1] at hr hrow4 hup
        refine ⟨qa, qc, w4, hr, ?_, ?_, hrow4, ?_⟩
        · exact (hup.1.block _ (by omega) (fun e => by have := hne _ e.symm; omega)).trans ((hb.block _ (by omega)).trans HZ.out)
        · exact (hup.1.block _ (by omega) (fun e => by have := hne _ e.symm; omega)).trans ((hb.block _ (by omega)).trans HO.out)
        · exact ((HBW.out.trans (hb.mono hzr)).grown hup.1 (by omega) (fun q hq => by have := hne q hq; omega)))
      clear hin hel hcall hb1 hrow hO hZ hN
      go_wp2_with fail
      go_region_with ((go_at_call 11; refine HCALL.out.mono ?_; rintro e w3 ⟨lv', fv', rfl, hat, hb3⟩; obtain ⟨qa, qc, w4, hr, hZ4, hO4, hrow4, hb4⟩ := HK.out w3 lv' fv' hat hb3; obtain ⟨⟨l0, l1, rfl⟩, ⟨l2, l3, rfl⟩, _, _⟩ := hat.is.len; obtain ⟨r0, r1, r2, r3, r4, r5, r6⟩ := (HSL.out w3 hb3).2.2.seven; obtain ⟨s0, s1, s2, s3, s4, s5, s6⟩ := ((HSL.out w3 hb3).2.2.alloc (.cells #[.string nm, .int .i64 x.rv.kind, .bool x.rv.yes, .int .i64 x.rv.num, .string x.rv.text, .slice l0 x.rv.list.length l1, .slice l2 x.rv.fields.length l3] 68)).seven))
      all_goals
        have HE := Lib.hid (And.intro hZ4 (And.intro hO4 (And.intro hrow4 hb4)))
        clear hZ4 hO4 hrow4 hb4
        go_wp2
        go_roundw
        case rel =>
          obtain ⟨hZ4, hO4, hrow4, hb4⟩ := HE.out
          exact ⟨j + 1, by omega, by go_num, hZ4, hO4, by rw [HTK.out]; exact hrow4, hb4⟩
        case measure => simp [intOf]; omega
    · have hge : ¬ (j : Int) < (f.length : Int) := by omega
      obtain rfl : j = f.length := by omega
      rw [List.take_of_length_le (Nat.le_refl _)] at hrow
      have hsm : ∀ p ∈ f.map (fun p : Fd => (p.1, p.2.rv)), p.2.sm := fun p hp => by
        obtain ⟨q, hq, rfl⟩ := List.mem_map.1 hp
        exact few_sm _ _ d (Nat.le_refl _) (rv_few _ q.2 d (Nat.le_refl _) (HF.out q hq))
      have hK8 := keptL_length (f.map (fun p : Fd => (p.1, p.2.rv)))
      rw [List.length_map] at hK8
      obtain ⟨va, vc, rfl, _, _⟩ := hrow.form
      obtain ⟨dd, hdd, hcall⟩ := ofMap_any (f.map (fun p : Fd => (p.1, p.2.rv))) _ wr (FAt.move (fun b _ _ => ⟨trivial, rfl⟩) (Nat.le_refl _) hrow.at_) (by rw [List.length_map]; omega) hsm
      rw [kept_is dd, ← hdd] at hcall
      rw [List.length_map] at hcall
      obtain ⟨KL, hKL⟩ : ∃ KL, KL = keptL (f.map (fun p : Fd => (p.1, p.2.rv))) := ⟨_, rfl⟩
      rw [← hKL] at hcall hK8
      have HKL := Lib.hid hKL
      clear hKL
      have HB := Lib.hid hb
      have HZ := Lib.hid hZ
      have HO := Lib.hid hO
      have HCL := Lib.hid hcall
      have hgl : Hid (w.heap.size + 1 + 1 < wr.heap.size) := Lib.hid hOlt
      clear hrow hsm hdd hb hZ hO hcall
      go_wp2_with fail
      refine HCL.out.mono ?_
      rintro e w5 ⟨fv', rfl, hat, hb5⟩
      obtain ⟨_, ⟨qx, qc, rfl⟩, _, _⟩ := hat.is.len
      obtain ⟨kn, hkn⟩ : ∃ kn, kn = (V.ofMap KL).fields.length := ⟨_, rfl⟩
      rw [← hkn] at hat ⊢
      have hlt := hgl.out
      have hZ5 : Box w5 (w.heap.size + 1) 26 #[.int .i64 0, .bool false, .int .i64 0, .string ⟨#[]⟩, .slice none 0 0, .slice none 0 0] := (hb5.block _ (by omega)).trans HZ.out
      have hO5 : Box w5 (w.heap.size + 1 + 1) 26 #[.int .i64 5, .bool false, .int .i64 0, .string ⟨#[]⟩, .slice none 0 0, .slice none 0 0] := (hb5.block _ (by omega)).trans HO.out
      have hbw5 := HB.out.trans (hb5.mono hzr)
      have hO6 := Box.sets [.int .i64 5, .bool false, .int .i64 0, .string ⟨#[]⟩, .slice none 0 0, .slice qx kn qc] 0 hO5
      have hZ6 : Box (sets w5 (w.heap.size + 1 + 1) 0 [.int .i64 5, .bool false, .int .i64 0, .string ⟨#[]⟩, .slice none 0 0, .slice qx kn qc]) (w.heap.size + 1) 26 #[.int .i64 0, .bool false, .int .i64 0, .string ⟨#[]⟩, .slice none 0 0, .slice none 0 0] := (sets_far _ _ _ _ (by omega)).trans hZ5
      have hF := Box.sets [.int .i64 5, .bool false, .int .i64 0, .string ⟨#[]⟩, .slice none 0 0, .slice qx kn qc] 0 hZ6
      have hb6 := Below.sets [.int .i64 5, .bool false, .int .i64 0, .string ⟨#[]⟩, .slice none 0 0, .slice qx kn qc] 0 (Below.sets [.int .i64 5, .bool false, .int .i64 0, .string ⟨#[]⟩, .slice none 0 0, .slice qx kn qc] 0 hbw5 (g := w.heap.size + 1 + 1) (by omega)) (g := w.heap.size + 1) (by omega)
      have hat6 : (V.ofMap KL).At (sets (sets w5 (w.heap.size + 1 + 1) 0 [.int .i64 5, .bool false, .int .i64 0, .string ⟨#[]⟩, .slice none 0 0, .slice qx kn qc]) (w.heap.size + 1) 0 [.int .i64 5, .bool false, .int .i64 0, .string ⟨#[]⟩, .slice none 0 0, .slice qx kn qc]) (fun q => w.heap.size ≤ q) (.slice none 0 0) (.slice qx kn qc) :=
        V.At.move (fun q hq _ => ⟨by omega, (sets_far _ _ _ _ (by omega)).trans (sets_far _ _ _ _ (by omega))⟩) (by rw [sets_size, sets_size]; exact Nat.le_refl _) _ (Nat.le_refl _) hat
      obtain ⟨⟨m0, m1, m2, m3, m4, m5⟩, g0, g1, g2, g3, g4, g5⟩ := hO5.six
      obtain ⟨⟨a0, a1, a2, a3, a4, a5⟩, _⟩ := Box.six (c0 := .int .i64 5) (c1 := .bool false) (c2 := .int .i64 0) (c3 := .string ⟨#[]⟩) (c4 := .slice none 0 0) (c5 := .slice qx kn qc) hO6
      obtain ⟨⟨z0, z1, z2, z3, z4, z5⟩, s0, s1, s2, s3, s4, s5⟩ := hZ6.six
      obtain ⟨⟨k0, k1, k2, k3, k4, k5⟩, _⟩ := Box.six (c0 := .int .i64 5) (c1 := .bool false) (c2 := .int .i64 0) (c3 := .string ⟨#[]⟩) (c4 := .slice none 0 0) (c5 := .slice qx kn qc) hF
      have HE := Lib.hid (And.intro hb6 hat6)
      clear hb6 hat6 hF hO6 hZ6 hZ5 hO5 hbw5 hb5 hat HZ HO HCL HB hkn hlt hK8 hOlt hlen
      simp only [sets, Nat.zero_add, Nat.reduceAdd] at a0 a1 a2 a3 a4 a5 z0 z1 z2 z3 z4 z5 s0 s1 s2 s3 s4 s5 k0 k1 k2 k3 k4 k5
      go_wp2
      refine bodyPost_ret (v := .agg #[.int .i64 5, .bool false, .int .i64 0, .string ⟨#[]⟩, .slice none 0 0, .slice qx kn qc]) (by simp [results, Try.results11, go_sem, k0, k1, k2, k3, k4, k5]) rfl ⟨_, _, rfl, ?_, HE.out.1⟩
      rw [← HKL.out]
      exact HE.out.2

theorem right_all : ∀ N, RightOK N
  | 0 => fun v d lv fv w hd _ _ => by
    cases v
    rw [V.dep] at hd
    omega
  | N + 1 => fun v d lv fv w hd hf his => by
    obtain ⟨k, y, n, t, l, f⟩ := v
    have hdl : ∀ x ∈ l, x.dep ≤ N := fun x hx => by have := dep_list (v := .mk k y n t l f) hx; omega
    have hdf : ∀ p ∈ f, p.2.dep ≤ N := fun p hp => by have := dep_fields (v := .mk k y n t l f) hp; omega
    obtain ⟨h1, h2, h3, h4, h5, h6⟩ := few_parts hf
    obtain ⟨hL, hF⟩ := V.at_iff.1 his
    obtain ⟨m, hm6, hm1, hm2⟩ := kind6 k
    by_cases hs : m < 4
    · exact rv_small k y n t l f lv fv m hm1 hm2 hs w
    · by_cases h4' : m = 4
      · subst h4'
        rw [V.rv, hm2, rvL_map]
        exact rv_list N (right_all N) k y n t l (d + 1) hdl (fewL_iff.1 h5) h2 lv fv hm1 w hL
      · obtain rfl : m = 5 := by omega
        rw [V.rv, hm2, rvF_map]
        exact rv_map N (right_all N) k y n t f (d + 1) hdf (fun p hp => (fewF_iff.1 h6 p hp).2) h3 lv fv hm1 w hF

/-- the law's Right, of whatever value of few parts -/
theorem lright_any (v : V) (d : Int) (hf : v.few d = true) (lv fv : Value) (w : World) (h : v.Is w lv fv) :
    Calls Try.prog 11 #[.agg #[.int .i64 v.kind, .bool v.yes, .int .i64 v.num, .string v.text, lv, fv]] w (RvP v.rv w) := right_all v.dep v d lv fv w (Nat.le_refl _) hf h

end Go.Proofs.Ytacphlceggbfcaa
end
end

section
section
namespace Go.Proofs.Ytacphlceggbfcaa
open Go.RowKit

mutual
/-- the law's order of two values -/
def V.ord : V → V → Int
  | .mk k y n t l f, o => if k ≠ o.kind then cmpI k o.kind else if y ≠ o.yes then cmpYes y o.yes else if n ≠ o.num then cmpI n o.num else if t ≠ o.text then cmpL t.data.toList o.text.data.toList else if ordVs l o.list ≠ 0 then ordVs l o.list else ordFs f o.fields
def ordVs : List V → List V → Int
  | [], [] => 0
  | [], _ :: _ => -1
  | _ :: _, [] => 1
  | a :: xs, b :: ys => if V.ord a b ≠ 0 then V.ord a b else ordVs xs ys
def ordFs : List (ByteArray × V) → List (ByteArray × V) → Int
  | [], [] => 0
  | [], _ :: _ => -1
  | _ :: _, [] => 1
  | a :: xs, b :: ys => if (if a.1 ≠ b.1 then cmpL a.1.data.toList b.1.data.toList else V.ord a.2 b.2) ≠ 0 then (if a.1 ≠ b.1 then cmpL a.1.data.toList b.1.data.toList else V.ord a.2 b.2) else ordFs xs ys
end

def ordFd (a b : Fd) : Int := if a.1 ≠ b.1 then cmpL a.1.data.toList b.1.data.toList else V.ord a.2 b.2

theorem ordVs_lex : ∀ (a b : List V), ordVs a b = lexL V.ord a b
  | [], [] => by rw [ordVs, lexL]
  | [], _ :: _ => by rw [ordVs, lexL]
  | _ :: _, [] => by rw [ordVs, lexL]
  | a :: xs, b :: ys => by rw [ordVs, lexL, ordVs_lex xs ys]
theorem ordFs_lex : ∀ (a b : List Fd), ordFs a b = lexL ordFd a b
  | [], [] => by rw [ordFs, lexL]
  | [], _ :: _ => by rw [ordFs, lexL]
  | _ :: _, [] => by rw [ordFs, lexL]
  | a :: xs, b :: ys => by rw [ordFs, lexL, ordFs_lex xs ys]; rfl

theorem ord_eq (v o : V) : v.ord o = if v.kind ≠ o.kind then cmpI v.kind o.kind else if v.yes ≠ o.yes then cmpYes v.yes o.yes else if v.num ≠ o.num then cmpI v.num o.num else if v.text ≠ o.text then cmpL v.text.data.toList o.text.data.toList else if ordVs v.list o.list ≠ 0 then ordVs v.list o.list else ordFs v.fields o.fields := by
  obtain ⟨k, y, n, t, l, f⟩ := v
  rw [V.ord]; rfl

section
variable {α : Type} {f : α → α → Int}
theorem lexL_at {a b : List α} {j : Nat} (h : j < a.length) (h2 : j < b.length) : lexL f (a.drop j) (b.drop j) = if f a[j] b[j] ≠ 0 then f a[j] b[j] else lexL f (a.drop (j + 1)) (b.drop (j + 1)) := by
  rw [List.drop_eq_getElem_cons h, List.drop_eq_getElem_cons h2, lexL]
theorem lexL_long {a b : List α} {j : Nat} (h : j < a.length) (h2 : b.length ≤ j) : lexL f (a.drop j) (b.drop j) = 1 := by
  rw [List.drop_eq_getElem_cons h, List.drop_of_length_le h2, lexL]
theorem lexL_short {a b : List α} {j : Nat} (h : a.length ≤ j) (h2 : j < b.length) : lexL f (a.drop j) (b.drop j) = -1 := by
  rw [List.drop_of_length_le h, List.drop_eq_getElem_cons h2, lexL]
theorem lexL_done {a b : List α} {j : Nat} (h : a.length ≤ j) (h2 : b.length ≤ j) : lexL f (a.drop j) (b.drop j) = 0 := by
  rw [List.drop_of_length_le h, List.drop_of_length_le h2, lexL]
theorem lexL_congr {g : α → α → Int} : ∀ (l m : List α), (∀ x ∈ l, ∀ y ∈ m, f x y = g x y) → lexL f l m = lexL g l m
  | [], [], _ => by rw [lexL, lexL]
  | [], _ :: _, _ => by rw [lexL, lexL]
  | _ :: _, [], _ => by rw [lexL, lexL]
  | a :: xs, b :: ys, h => by
    rw [lexL, lexL, h a (List.mem_cons_self ..) b (List.mem_cons_self ..), lexL_congr xs ys fun x hx y hy => h x (List.mem_cons_of_mem _ hx) y (List.mem_cons_of_mem _ hy)]
end

/-- a value as the law's Right makes it: what doesn't belong to its kind is nothing -/
inductive V.pl : V → Prop
  | null : V.pl V.null
  | bool (y : Bool) : V.pl (V.ofBool y)
  | int (n : Int) : V.pl (V.ofInt n)
  | text (t : ByteArray) : V.pl (V.ofText t)
  | list (l : List V) (h : ∀ x ∈ l, V.pl x) : V.pl (V.ofList l)
  | map (f : List (ByteArray × V)) (h : ∀ p ∈ f, V.pl p.2) : V.pl (V.ofMap f)

theorem rv_pl : ∀ (N : Nat) (v : V), v.dep ≤ N → v.rv.pl
  | 0, v, hd => by cases v; rw [V.dep] at hd; omega
  | N + 1, v, hd => by
    obtain ⟨k, y, n, t, l, f⟩ := v
    have hdl : ∀ x ∈ l, x.dep ≤ N := fun x hx => by have := dep_list (v := .mk k y n t l f) hx; omega
    have hdf : ∀ p ∈ f, p.2.dep ≤ N := fun p hp => by have := dep_fields (v := .mk k y n t l f) hp; omega
    rw [V.rv, rvL_map, rvF_map]
    unfold rvK
    split
    · exact .bool y
    split
    · exact .int n
    split
    · exact .text t
    split
    · refine .list _ fun x hx => ?_
      obtain ⟨z, hz, rfl⟩ := List.mem_map.1 hx
      exact rv_pl N z (hdl z hz)
    split
    · refine .map _ fun p hp => ?_
      obtain ⟨z, hz, rfl⟩ := List.mem_map.1 (keptL_mem hp)
      exact rv_pl N z.2 (hdf z hz)
    · exact .null

theorem ord_cmp : ∀ (N : Nat) (v o : V), v.dep ≤ N → v.pl → o.pl → v.ord o = v.cmp o
  | 0, v, o, hd, _, _ => by cases v; rw [V.dep] at hd; omega
  | N + 1, v, o, hd, hv, ho => by
    rw [ord_eq]
    by_cases hk : v.kind = o.kind
    · rw [if_neg (fun h => h hk)]
      have hdl : ∀ x ∈ v.list, x.dep ≤ N := fun x hx => by have := dep_list hx; omega
      have hdf : ∀ p ∈ v.fields, p.2.dep ≤ N := fun p hp => by have := dep_fields hp; omega
      cases hv <;> cases ho <;> first
        | (exfalso; simp [V.null, V.ofBool, V.ofInt, V.ofText, V.ofList, V.ofMap, V.kind] at hk; done)
        | skip
      · rw [cmp_other V.null V.null rfl (by simp [V.null, V.kind]) (by simp [V.null, V.kind]) (by simp [V.null, V.kind]) (by simp [V.null, V.kind]) (by simp [V.null, V.kind])]
        simp [V.null, V.yes, V.num, V.text, V.list, V.fields, ordVs, ordFs]
      · rename_i a b
        rw [cmp_bool (V.ofBool a) (V.ofBool b) rfl rfl]
        simp [V.ofBool, V.yes, V.num, V.text, V.list, V.fields, ordVs, ordFs]
        intro h; rw [h]; simp [cmpYes]
      · rename_i a b
        rw [cmp_int (V.ofInt a) (V.ofInt b) rfl rfl]
        simp [V.ofInt, V.yes, V.num, V.text, V.list, V.fields, ordVs, ordFs]
        intro h; rw [h, cmpI_zero.2 rfl]
      · rename_i a b
        rw [cmp_text (V.ofText a) (V.ofText b) rfl rfl]
        simp [V.ofText, V.yes, V.num, V.text, V.list, V.fields, ordVs, ordFs]
        intro h; rw [h, cmpB_zero.2 rfl]
      · rename_i a ha b hb
        rw [cmp_list (V.ofList a) (V.ofList b) rfl rfl]
        have e : ordVs a b = cmpVs a b := by
          rw [ordVs_lex, cmpVs_lex]
          exact lexL_congr a b fun x hx y hy => ord_cmp N x y (hdl x hx) (ha x hx) (hb y hy)
        simp [V.ofList, V.yes, V.num, V.text, V.list, V.fields, ordFs, e]
        intro h; rw [h]
      · rename_i a ha b hb
        rw [cmp_map (V.ofMap a) (V.ofMap b) rfl rfl]
        have e : ordFs a b = cmpFs a b := by
          rw [ordFs_lex, cmpFs_lex]
          refine lexL_congr a b fun x hx y hy => ?_
          unfold ordFd cmpFd
          rw [ord_cmp N x.2 y.2 (hdf x hx) (ha x hx) (hb y hy)]
        simp [V.ofMap, V.yes, V.num, V.text, V.list, V.fields, ordVs, e]
    · rw [if_pos hk, cmp_kinds _ _ hk]

theorem ord_rv (a b : V) : a.rv.ord b.rv = a.rv.cmp b.rv := ord_cmp _ _ _ (Nat.le_refl _) (rv_pl _ a (Nat.le_refl _)) (rv_pl _ b (Nat.le_refl _))

end Go.Proofs.Ytacphlceggbfcaa
end

section
namespace Go.Proofs.Ytacphlceggbfcaa
open Go.RowKit

attribute [local irreducible] wpStill

theorem cell4 {w w' : World} {b : Nat} {c0 c1 c2 c3 : Value} (hb : Below w.heap.size w w') (hlt : b + 1 < w.heap.size) (h0 : w.cell? ⟨b, 4, none⟩ = some c0) (h1 : w.cell? ⟨b + 1, 4, none⟩ = some c1) (h2 : w.cell? ⟨b, 5, none⟩ = some c2) (h3 : w.cell? ⟨b + 1, 5, none⟩ = some c3) :
    w'.cell? ⟨b, 4, none⟩ = some c0 ∧ w'.cell? ⟨b + 1, 4, none⟩ = some c1 ∧ w'.cell? ⟨b, 5, none⟩ = some c2 ∧ w'.cell? ⟨b + 1, 5, none⟩ = some c3 :=
  ⟨(hb.cell (p := ⟨b, 4, none⟩) (by show b < _; omega)).trans h0, (hb.cell (p := ⟨b + 1, 4, none⟩) hlt).trans h1, (hb.cell (p := ⟨b, 5, none⟩) (by show b < _; omega)).trans h2, (hb.cell (p := ⟨b + 1, 5, none⟩) hlt).trans h3⟩

def lessI (x : Bool) : Int := if x then -1 else 1

theorem less_any (x : Bool) (w : World) : Calls Try.prog 48 #[.bool x] w fun e w' => e = .returned (.int .i64 (lessI x)) ∧ w = w' := by
  cases x
  · go_enter Try.func48, Try.ntmps48
    go_wp2
    go_ret
    exact ⟨rfl, rfl⟩
  · go_enter Try.func48, Try.ntmps48
    go_wp2
    go_ret
    exact ⟨rfl, rfl⟩

theorem less_int {a b : Int} (h : a ≠ b) : lessI (decide (a < b)) = cmpI a b := by
  unfold lessI cmpI
  by_cases h1 : a < b
  · simp [h1]
  · have : b < a := by omega
    simp [h1, this]
theorem less_yes {a b : Bool} (h : a ≠ b) : lessI b = cmpYes a b := by revert h; cases a <;> cases b <;> simp [lessI, cmpYes]
theorem less_text {a b : ByteArray} (h : a ≠ b) : lessI (Op.bytesLess a.toList b.toList) = cmpL a.data.toList b.data.toList := by
  rw [Proofs.bytesLess_eq, Lib.toList_data, Lib.toList_data]
  unfold lessI
  have hne : a.data.toList ≠ b.data.toList := fun e => h (by apply ByteArray.ext; exact Array.toList_inj.1 e)
  rcases lt_tri a.data.toList b.data.toList with h1 | h1 | h1
  · rw [cmpL_neg.2 h1]; simp [h1]
  · exact absurd h1 hne
  · rw [cmpL_pos.2 h1]; simp [lt_asym h1]
theorem less_len {α : Type} (a b : List α) : lessI (decide ((a.length : Int) < (b.length : Int))) = if a.length < b.length then -1 else 1 := by
  unfold lessI
  by_cases h1 : a.length < b.length
  · rw [if_pos h1]; simp [h1]
  · rw [if_neg h1]; simp [h1]

def OrdOK (N : Nat) : Prop := ∀ (v o : V) (lv fv lo fo : Value) (w : World), v.dep ≤ N → v.Is w lv fv → o.Is w lo fo →
  Calls Try.prog 14 #[.agg #[.int .i64 v.kind, .bool v.yes, .int .i64 v.num, .string v.text, lv, fv], .agg #[.int .i64 o.kind, .bool o.yes, .int .i64 o.num, .string o.text, lo, fo]] w fun e w' => e = .returned (.int .i64 (v.ord o)) ∧ Below w.heap.size w w'

set_option maxHeartbeats 4000000 in
set_option maxRecDepth 100000 in
/-- where the two part ahead of their lists -/
theorem ord_head (k : Int) (y : Bool) (n : Int) (t : ByteArray) (k' : Int) (y' : Bool) (n' : Int) (t' : ByteArray) (a : Option Addr) (L c : Nat) (b : Option Addr) (F d : Nat) (a' : Option Addr) (L' c' : Nat) (b' : Option Addr) (F' d' : Nat) (w : World)
    (r : Int) (hr : (k ≠ k' ∧ r = cmpI k k') ∨ (k = k' ∧ y ≠ y' ∧ r = cmpYes y y') ∨ (k = k' ∧ y = y' ∧ n ≠ n' ∧ r = cmpI n n') ∨ (k = k' ∧ y = y' ∧ n = n' ∧ t ≠ t' ∧ r = cmpL t.data.toList t'.data.toList)) :
    Calls Try.prog 14 #[.agg #[.int .i64 k, .bool y, .int .i64 n, .string t, .slice a L c, .slice b F d], .agg #[.int .i64 k', .bool y', .int .i64 n', .string t', .slice a' L' c', .slice b' F' d']] w fun e w' => e = .returned (.int .i64 r) ∧ Below w.heap.size w w' := by
  have hb0 := Lib.hid (two_boxes w #[.int .i64 k, .bool y, .int .i64 n, .string t, .slice a L c, .slice b F d] #[.int .i64 k', .bool y', .int .i64 n', .string t', .slice a' L' c', .slice b' F' d'] 26)
  rcases hr with ⟨h, rfl⟩ | ⟨rfl, h, rfl⟩ | ⟨rfl, rfl, h, rfl⟩ | ⟨rfl, rfl, rfl, h, rfl⟩
  · have hE := Lib.hid (less_int h)
    have g1 : (k == k') = false := by rw [beq_eq_false_iff_ne]; exact h
    have g2 : (k != k') = true := by rw [bne, g1]; rfl
    clear h
    go_enter Try.func14, Try.ntmps14
    go_wp2_with fail
    refine (less_any _ _).mono ?_
    rintro e w1 ⟨rfl, rfl⟩
    go_wp2
    go_ret
    exact ⟨by rw [hE.out]; rfl, hb0.out⟩
  · have hE := Lib.hid (less_yes h)
    have g1 : (y == y') = false := by rw [beq_eq_false_iff_ne]; exact h
    have g2 : (y != y') = true := by rw [bne, g1]; rfl
    clear h
    go_enter Try.func14, Try.ntmps14
    go_wp2_with fail
    refine (less_any _ _).mono ?_
    rintro e w1 ⟨rfl, rfl⟩
    go_wp2
    go_ret
    exact ⟨by rw [hE.out]; rfl, hb0.out⟩
  · have hE := Lib.hid (less_int h)
    have g1 : (n == n') = false := by rw [beq_eq_false_iff_ne]; exact h
    have g2 : (n != n') = true := by rw [bne, g1]; rfl
    clear h
    go_enter Try.func14, Try.ntmps14
    go_wp2_with fail
    refine (less_any _ _).mono ?_
    rintro e w1 ⟨rfl, rfl⟩
    go_wp2
    go_ret
    exact ⟨by rw [hE.out]; rfl, hb0.out⟩
  · have hE := Lib.hid (less_text h)
    have g1 : (t.toList == t'.toList) = false := by
      rw [beq_eq_false_iff_ne, Lib.toList_data, Lib.toList_data]
      exact fun e => h (by apply ByteArray.ext; exact Array.toList_inj.1 e)
    have g2 : (t.toList != t'.toList) = true := by rw [bne, g1]; rfl
    clear h
    go_enter Try.func14, Try.ntmps14
    go_wp2_with fail
    refine (less_any _ _).mono ?_
    rintro e w1 ⟨rfl, rfl⟩
    go_wp2
    go_ret
    exact ⟨by rw [hE.out]; rfl, hb0.out⟩

end Go.Proofs.Ytacphlceggbfcaa
end

section
namespace Go.Proofs.Ytacphlceggbfcaa
open Go.RowKit

attribute [local irreducible] wpStill

def Cell4 (w : World) (b : Nat) (c0 c1 c2 c3 : Value) : Prop := w.cell? ⟨b, 4, none⟩ = some c0 ∧ w.cell? ⟨b + 1, 4, none⟩ = some c1 ∧ w.cell? ⟨b, 5, none⟩ = some c2 ∧ w.cell? ⟨b + 1, 5, none⟩ = some c3
theorem Cell4.below {w w' : World} {b : Nat} {c0 c1 c2 c3 : Value} (h : Cell4 w b c0 c1 c2 c3) (hb : Below w.heap.size w w') (hlt : b + 1 < w.heap.size) : Cell4 w' b c0 c1 c2 c3 :=
  cell4 hb hlt h.1 h.2.1 h.2.2.1 h.2.2.2

theorem ret_i {a b : Int} (h : a = b) : Ending.returned (.int .i64 a) = .returned (.int .i64 b) := by rw [h]

set_option maxHeartbeats 8000000 in
set_option maxRecDepth 100000 in
theorem ord_rest (N : Nat) (ih : OrdOK N) (k : Int) (y : Bool) (n : Int) (t : ByteArray) (l m : List V) (f f' : List Fd) (hdl : ∀ x ∈ l, x.dep ≤ N) (hdf : ∀ p ∈ f, p.2.dep ≤ N)
    (lv fv lo fo : Value) (w : World) (his : (V.mk k y n t l f).Is w lv fv) (hos : (V.mk k y n t m f').Is w lo fo) :
    Calls Try.prog 14 #[.agg #[.int .i64 k, .bool y, .int .i64 n, .string t, lv, fv], .agg #[.int .i64 k, .bool y, .int .i64 n, .string t, lo, fo]] w fun e w' => e = .returned (.int .i64 (if ordVs l m ≠ 0 then ordVs l m else ordFs f f')) ∧ Below w.heap.size w w' := by
  obtain ⟨⟨a, c, rfl⟩, ⟨a', c', rfl⟩, hLb, hFb⟩ := his.len
  obtain ⟨⟨g, d, rfl⟩, ⟨g', d', rfl⟩, hMb, hGb⟩ := hos.len
  have HDL := Lib.hid hdl
  have HDF := Lib.hid hdf
  clear hdl hdf
  obtain ⟨R, hR⟩ : ∃ R, R = if ordVs l m ≠ 0 then ordVs l m else ordFs f f' := ⟨_, rfl⟩
  rw [← hR]
  rw [ordVs_lex, ordFs_lex] at hR
  have HR := Lib.hid hR
  clear hR
  simp only [V.list, V.fields] at *
  have hb0 := Lib.hid (two_boxes w #[.int .i64 k, .bool y, .int .i64 n, .string t, .slice a l.length c, .slice a' f.length c'] #[.int .i64 k, .bool y, .int .i64 n, .string t, .slice g m.length d, .slice g' f'.length d'] 26)
  go_enter Try.func14, Try.ntmps14
  go_wp2_with fail
  go_loopw [6] (fun i wr => ∃ j : Nat, j ≤ l.length ∧ j ≤ m.length ∧ i = .int .i64 j ∧ Hid (Below w.heap.size w wr) ∧ Hid (Cell4 wr w.heap.size (.slice a l.length c) (.slice g m.length d) (.slice a' f.length c') (.slice g' f'.length d')) ∧ w.heap.size + 1 < wr.heap.size ∧ Hid (lexL V.ord l m = lexL V.ord (l.drop j) (m.drop j))) (fun i _ => l.length - (intOf i).toNat)
  case atStart =>
    refine ⟨0, Nat.zero_le _, Nat.zero_le _, rfl, hb0, Lib.hid ⟨?_, ?_, ?_, ?_⟩, by simp, Lib.hid (by simp)⟩ <;> simp
  case round =>
    obtain ⟨j, hj, hj2, rfl, HBR, HC4, hlt0, HEQ⟩ := hrel
    have hzr := HBR.out.size
    obtain ⟨hc0, hc1, hc2, hc3⟩ := HC4.out
    by_cases hboth : j < l.length ∧ j < m.length
    · obtain ⟨hjl, hjm⟩ := hboth
      have hat := lexL_at (f := V.ord) hjl hjm
      obtain ⟨b, off, cc, lv', fv', e1, hbl, hin, hel⟩ := (his.below HBR.out).elem (i := j) hjl
      obtain ⟨b', off', cc', lw', fw', e2, hbl', hin', hel'⟩ := (hos.below HBR.out).elem (i := j) hjm
      injection e1 with e1 e3 e4
      injection e2 with e2 e5 e6
      clear e3 e5
      subst e1 e2 e4 e6
      have hxd := HDL.out _ (List.getElem_mem hjl)
      obtain ⟨q0, q1, q2, q3, q4, q5⟩ := hin.six
      obtain ⟨p0, p1, p2, p3, p4, p5⟩ := hin'.six
      simp only [V.list] at q0 q1 q2 q3 q4 q5 p0 p1 p2 p3 p4 p5 hel hel'
      generalize l[j] = x at q0 q1 q2 q3 q4 q5 hel hxd hat
      generalize m[j] = z at p0 p1 p2 p3 p4 p5 hel' hat
      obtain ⟨⟨ax, cx, rfl⟩, ⟨ax', cx', rfl⟩, _, _⟩ := hel.len
      obtain ⟨⟨bx, dx, rfl⟩, ⟨bx', dx', rfl⟩, _, _⟩ := hel'.len
      have hjl' : (j : Int) < (l.length : Int) := by omega
      have hjm' : (j : Int) < (m.length : Int) := by omega
      have hj0 : (0 : Int) ≤ (j : Int) := by omega
      have hcall := ih x z _ _ _ _ wr.drew hxd (V.At.drew hel) (V.At.drew hel')
      generalize x.ord z = r at hcall hat
      have HC := Lib.hid hcall
      have HAT := Lib.hid hat
      clear hin hel hin' hel' hcall hat
      go_wp2_with fail
      refine wp_region_still_tail 10 (by kernel_rfl) (by kernel_rfl) ?_
      change wpStill _ _ (World.drew _) (fun a' => wpList _ _ _ _ a' (World.drew _)) _ _
      simp only [List.take_succ_cons, List.take_zero, List.drop_succ_cons, List.drop_zero]
      repeat still_step
      refine wpStill_nil ?_
      have hcall2 := HC.out
      go_wp2_with fail
      refine hcall2.mono ?_
      rintro e w2 ⟨rfl, hb2'⟩
      have hb21 : Below wr.heap.size wr w2 := (Below.refl _ wr).drew.trans hb2'
      have HB2 := Lib.hid (HBR.out.trans (hb21.mono hzr))
      have HC2 := Lib.hid (HC4.out.below hb21 hlt0)
      have hlt2 : w.heap.size + 1 < w2.heap.size := Nat.lt_of_lt_of_le hlt0 hb21.size
      clear hcall2 hb2' hb21 hc0 hc1 hc2 hc3
      by_cases hr : r = 0
      · subst hr
        have HN : Hid (lexL V.ord l m = lexL V.ord (l.drop (j + 1)) (m.drop (j + 1))) := Lib.hid (by rw [HEQ.out, HAT.out, if_neg (by simp)])
        go_wp2
        go_roundw
        case rel => exact ⟨j + 1, by omega, by omega, by go_num, HB2, HC2, hlt2, HN⟩
        case measure => simp [intOf]; omega
      · have HF : Hid (R = r) := Lib.hid (by rw [HR.out, HEQ.out, HAT.out, if_pos hr, if_pos hr])
        have g1 : (r == 0) = false := by rw [beq_eq_false_iff_ne]; exact hr
        have g2 : (r != 0) = true := by rw [bne, g1]; rfl
        clear hr
        go_wp2
        go_ret
        exact ⟨ret_i HF.out.symm, HB2.out⟩
    · by_cases heq : l.length = m.length
      · have e0 : Hid (lexL V.ord l m = 0) := Lib.hid (by rw [HEQ.out, lexL_done (by omega) (by omega)])
        obtain rfl : j = l.length := by omega
        have e1 : ((l.length : Int) == (m.length : Int)) = true := by rw [heq]; simp
        have e2 : (l.length == m.length) = true := by rw [heq]; simp
        have e3 : ((l.length : Int) != (m.length : Int)) = false := by rw [bne, e1]; rfl
        have e4 : ¬ (l.length : Int) < (m.length : Int) := by omega
        have HF : Hid (R = ordFs f f') := Lib.hid (by rw [HR.out, e0.out, if_neg (by simp), ordFs_lex])
        have HL := Lib.hid heq
        clear hboth heq
        go_wp2
        go_loopw [8] (fun i wr => ∃ j : Nat, j ≤ f.length ∧ j ≤ f'.length ∧ i = .int .i64 j ∧ Hid (Below w.heap.size w wr) ∧ Hid (Cell4 wr w.heap.size (.slice a l.length c) (.slice g m.length d) (.slice a' f.length c') (.slice g' f'.length d')) ∧ w.heap.size + 1 < wr.heap.size ∧ Hid (ordFs f f' = lexL ordFd (f.drop j) (f'.drop j))) (fun i _ => f.length - (intOf i).toNat)
        case atStart => exact ⟨0, Nat.zero_le _, Nat.zero_le _, rfl, HBR, HC4, hlt0, Lib.hid (by rw [ordFs_lex]; simp)⟩
        case round =>
          clear HBR HC4 hlt0 hc0 hc1 hc2 hc3 hzr e1 e2 e3 e4 hj hj2 HEQ
          obtain ⟨j, hj, hj2, rfl, HBR, HC4, hlt0, HEQ⟩ := hrel
          have hzr := HBR.out.size
          obtain ⟨hc0, hc1, hc2, hc3⟩ := HC4.out
          by_cases hboth : j < f.length ∧ j < f'.length
          · obtain ⟨hjl, hjm⟩ := hboth
            have hat := lexL_at (f := ordFd) hjl hjm
            obtain ⟨b, off, cc, lv', fv', e1, hbl, hin, hel⟩ := (his.below HBR.out).field (i := j) hjl
            obtain ⟨b', off', cc', lw', fw', e2, hbl', hin', hel'⟩ := (hos.below HBR.out).field (i := j) hjm
            injection e1 with e1 e3 e4
            injection e2 with e2 e5 e6
            clear e3 e5
            subst e1 e2 e4 e6
            have hxd := HDF.out _ (List.getElem_mem hjl)
            simp only [V.fields] at hin hin' hel hel'
            obtain ⟨q0, q1, q2, q3, q4, q5, q6⟩ := hin.seven
            obtain ⟨p0, p1, p2, p3, p4, p5, p6⟩ := hin'.seven
            have hd1 : Hid (ordFd f[j] f'[j] = if (f[j]).1 ≠ (f'[j]).1 then cmpL (f[j]).1.data.toList (f'[j]).1.data.toList else V.ord (f[j]).2 (f'[j]).2) := Lib.hid rfl
            generalize ordFd f[j] f'[j] = q at hat hd1
            generalize (f[j]).1 = nm at q0 hd1
            generalize (f[j]).2 = x at q1 q2 q3 q4 q5 q6 hel hxd hd1
            generalize (f'[j]).1 = nm' at p0 hd1
            generalize (f'[j]).2 = z at p1 p2 p3 p4 p5 p6 hel' hd1
            obtain ⟨⟨ax, cx, rfl⟩, ⟨ax', cx', rfl⟩, _, _⟩ := hel.len
            obtain ⟨⟨bx, dx, rfl⟩, ⟨bx', dx', rfl⟩, _, _⟩ := hel'.len
            have hjl' : (j : Int) < (f.length : Int) := by omega
            have hjm' : (j : Int) < (f'.length : Int) := by omega
            have hj0 : (0 : Int) ≤ (j : Int) := by omega
            have HAT := Lib.hid hat
            clear hat
            by_cases hnm : nm = nm'
            · subst hnm
              have hq : Hid (q = x.ord z) := Lib.hid (by rw [hd1.out, if_neg (by simp)])
              clear hd1
              have g1 : (nm.toList == nm.toList) = true := by simp
              have g2 : (nm.toList != nm.toList) = false := by simp
              have hcall := fun n => ih x z _ _ _ _ (wr.drewN n).drew hxd (V.Is.below hel (rowB.below_drewN (Below.refl wr.heap.size wr) n).drew) (V.Is.below hel' (rowB.below_drewN (Below.refl wr.heap.size wr) n).drew)
              generalize x.ord z = r at hcall hq
              have HC := Lib.hid hcall
              clear hin hel hin' hel' hcall
              go_wp2_with fail
              go_quiet (fail)
              have HBQ := Lib.hid (rowB.below_drewN (Below.refl wr.heap.size wr) nq).drew
              go_wp2_with fail
              refine wp_region_still_tail 12 (by kernel_rfl) (by kernel_rfl) ?_
              change wpStill _ _ (World.drew _) (fun a' => wpList _ _ _ _ a' (World.drew _)) _ _
              simp only [List.take_succ_cons, List.take_zero, List.drop_succ_cons, List.drop_zero]
              repeat still_step
              refine wpStill_nil ?_
              have hcall2 := HC.out nq
              go_wp2_with fail
              refine hcall2.mono ?_
              rintro e w2 ⟨rfl, hb2'⟩
              have hb21 : Below wr.heap.size wr w2 := HBQ.out.trans hb2'
              have HB2 := Lib.hid (HBR.out.trans (hb21.mono hzr))
              have HC2 := Lib.hid (HC4.out.below hb21 hlt0)
              have hlt2 : w.heap.size + 1 < w2.heap.size := Nat.lt_of_lt_of_le hlt0 hb21.size
              clear hcall2 hb2' hb21 hc0 hc1 hc2 hc3 g1 g2
              by_cases hr : r = 0
              · subst hr
                have HN : Hid (ordFs f f' = lexL ordFd (f.drop (j + 1)) (f'.drop (j + 1))) := Lib.hid (by rw [HEQ.out, HAT.out, if_neg (by rw [hq.out]; simp)])
                go_wp2
                go_roundw
                case rel => exact ⟨j + 1, by omega, by omega, by go_num, HB2, HC2, hlt2, HN⟩
                case measure => simp [intOf]; omega
              · have HF2 : Hid (R = r) := Lib.hid (by rw [HF.out, HEQ.out, HAT.out, hq.out, if_pos hr])
                have g1 : (r == 0) = false := by rw [beq_eq_false_iff_ne]; exact hr
                have g2 : (r != 0) = true := by rw [bne, g1]; rfl
                clear hr
                go_wp2
                go_ret
                exact ⟨ret_i HF2.out.symm, HB2.out⟩
            · have hq : Hid (q = cmpL nm.data.toList nm'.data.toList) := Lib.hid (by rw [hd1.out, if_pos hnm])
              have hq0 : Hid (q ≠ 0) := Lib.hid (by rw [hq.out]; exact fun h => hnm (cmpB_zero.1 h))
              have HF2 : Hid (R = q) := Lib.hid (by rw [HF.out, HEQ.out, HAT.out, if_pos hq0.out])
              have hE := Lib.hid (less_text hnm)
              have g1 : (nm.toList == nm'.toList) = false := by
                rw [beq_eq_false_iff_ne, Lib.toList_data, Lib.toList_data]
                exact fun e => hnm (by apply ByteArray.ext; exact Array.toList_inj.1 e)
              have g2 : (nm.toList != nm'.toList) = true := by rw [bne, g1]; rfl
              clear hin hel hin' hel' hnm q1 q2 q3 q4 q5 q6 p1 p2 p3 p4 p5 p6
              go_wp2_with fail
              go_quiet (fail)
              go_wp2_with fail
              refine wp_region_still_tail 14 (by kernel_rfl) (by kernel_rfl) ?_
              change wpStill _ _ (World.drew _) (fun a' => wpList _ _ _ _ a' (World.drew _)) _ _
              simp only [List.take_succ_cons, List.take_zero, List.drop_succ_cons, List.drop_zero]
              repeat still_step
              refine wpStill_nil ?_
              go_wp2_with fail
              refine (less_any _ _).mono ?_
              rintro e w2 ⟨rfl, rfl⟩
              go_wp2
              go_ret
              exact ⟨ret_i (by rw [HF2.out, hq.out, hE.out]), (rowB.below_drewN HBR.out _).drew⟩
          · by_cases heq2 : f.length = f'.length
            · have e0 : Hid (R = 0) := Lib.hid (by rw [HF.out, HEQ.out, lexL_done (by omega) (by omega)])
              obtain rfl : j = f.length := by omega
              have e1 : ((f.length : Int) == (f'.length : Int)) = true := by rw [heq2]; simp
              have e2 : (f.length == f'.length) = true := by rw [heq2]; simp
              have e3 : ((f.length : Int) != (f'.length : Int)) = false := by rw [bne, e1]; rfl
              have HQ := Lib.hid heq2
              clear hboth heq2
              go_wp2
              go_ret
              exact ⟨ret_i e0.out.symm, HBR.out⟩
            · have e0 : Hid (R = lessI (decide ((f.length : Int) < (f'.length : Int)))) := Lib.hid (by
                rw [HF.out, HEQ.out, less_len]
                by_cases h : f.length < f'.length
                · rw [if_pos h, lexL_short (by omega) (by omega)]
                · rw [if_neg h, lexL_long (by omega) (by omega)])
              have e1 : ((f.length : Int) == (f'.length : Int)) = false := by rw [beq_eq_false_iff_ne]; omega
              have e2 : (f.length == f'.length) = false := by rw [beq_eq_false_iff_ne]; omega
              have e3 : ((f.length : Int) != (f'.length : Int)) = true := by rw [bne, e1]; rfl
              have e4 : (f.length != f'.length) = true := by rw [bne, e2]; rfl
              by_cases hjl : j < f.length
              · have hjl' : (j : Int) < (f.length : Int) := by omega
                have d2 : decide ((j : Int) < (f'.length : Int)) = false := decide_eq_false (by omega)
                have d3 : decide (j < f'.length) = false := decide_eq_false (by omega)
                clear hboth heq2
                go_wp2_with fail
                refine (less_any _ _).mono ?_
                rintro e w2 ⟨rfl, rfl⟩
                go_wp2
                go_ret
                exact ⟨ret_i (by rw [e0.out]; congr 1; simp), HBR.out⟩
              · have d2 : decide ((j : Int) < (f.length : Int)) = false := decide_eq_false (by omega)
                have d3 : decide (j < f.length) = false := decide_eq_false (by omega)
                clear hboth heq2
                go_wp2_with fail
                refine (less_any _ _).mono ?_
                rintro e w2 ⟨rfl, rfl⟩
                go_wp2
                go_ret
                exact ⟨ret_i (by rw [e0.out]; congr 1; simp), HBR.out⟩
      · have e0 : Hid (R = lessI (decide ((l.length : Int) < (m.length : Int)))) := Lib.hid (by
          rw [HR.out, HEQ.out, less_len]
          by_cases h : l.length < m.length
          · rw [if_pos h, lexL_short (by omega) (by omega)]; rfl
          · rw [if_neg h, lexL_long (by omega) (by omega)]; rfl)
        have e1 : ((l.length : Int) == (m.length : Int)) = false := by rw [beq_eq_false_iff_ne]; omega
        have e2 : (l.length == m.length) = false := by rw [beq_eq_false_iff_ne]; omega
        have e3 : ((l.length : Int) != (m.length : Int)) = true := by rw [bne, e1]; rfl
        have e4 : (l.length != m.length) = true := by rw [bne, e2]; rfl
        by_cases hjl : j < l.length
        · have hjl' : (j : Int) < (l.length : Int) := by omega
          have d2 : decide ((j : Int) < (m.length : Int)) = false := decide_eq_false (by omega)
          have d3 : decide (j < m.length) = false := decide_eq_false (by omega)
          clear hboth heq
          go_wp2_with fail
          refine (less_any _ _).mono ?_
          rintro e w2 ⟨rfl, rfl⟩
          go_wp2
          go_ret
          exact ⟨ret_i (by rw [e0.out]; congr 1; simp), HBR.out⟩
        · have d2 : decide ((j : Int) < (l.length : Int)) = false := decide_eq_false (by omega)
          have d3 : decide (j < l.length) = false := decide_eq_false (by omega)
          clear hboth heq
          go_wp2_with fail
          refine (less_any _ _).mono ?_
          rintro e w2 ⟨rfl, rfl⟩
          go_wp2
          go_ret
          exact ⟨ret_i (by rw [e0.out]; congr 1; simp), HBR.out⟩

theorem ord_step (N : Nat) (ih : OrdOK N) : OrdOK (N + 1) := by
  intro v o lv fv lo fo w hdep his hos
  have e := ord_eq v o
  obtain ⟨⟨a, c, rfl⟩, ⟨a', c', rfl⟩, _, _⟩ := his.len
  obtain ⟨⟨g, d, rfl⟩, ⟨g', d', rfl⟩, _, _⟩ := hos.len
  by_cases h1 : v.kind = o.kind
  · by_cases h2 : v.yes = o.yes
    · by_cases h3 : v.num = o.num
      · by_cases h4 : v.text = o.text
        · rw [e, if_neg (fun h => h h1), if_neg (fun h => h h2), if_neg (fun h => h h3), if_neg (fun h => h h4)]
          have hdl : ∀ x ∈ v.list, x.dep ≤ N := fun x hx => by have := dep_list hx; omega
          have hdf : ∀ p ∈ v.fields, p.2.dep ≤ N := fun p hp => by have := dep_fields hp; omega
          obtain ⟨k, y, n, t, l, f⟩ := v
          obtain ⟨k', y', n', t', m, f'⟩ := o
          have h1 : k = k' := h1
          have h2 : y = y' := h2
          have h3 : n = n' := h3
          have h4 : t = t' := h4
          subst h1 h2 h3 h4
          exact ord_rest N ih k y n t l m f f' hdl hdf _ _ _ _ w his hos
        · exact ord_head _ _ _ _ _ _ _ _ _ _ _ _ _ _ _ _ _ _ _ _ w _ (.inr (.inr (.inr ⟨h1, h2, h3, h4, by rw [e, if_neg (fun h => h h1), if_neg (fun h => h h2), if_neg (fun h => h h3), if_pos h4]⟩)))
      · exact ord_head _ _ _ _ _ _ _ _ _ _ _ _ _ _ _ _ _ _ _ _ w _ (.inr (.inr (.inl ⟨h1, h2, h3, by rw [e, if_neg (fun h => h h1), if_neg (fun h => h h2), if_pos h3]⟩)))
    · exact ord_head _ _ _ _ _ _ _ _ _ _ _ _ _ _ _ _ _ _ _ _ w _ (.inr (.inl ⟨h1, h2, by rw [e, if_neg (fun h => h h1), if_pos h2]⟩))
  · exact ord_head _ _ _ _ _ _ _ _ _ _ _ _ _ _ _ _ _ _ _ _ w _ (.inl ⟨h1, by rw [e, if_pos h1]⟩)

theorem ord_all : ∀ N, OrdOK N
  | 0 => fun v o lv fv lo fo w hd _ _ => by
    cases v
    rw [V.dep] at hd
    omega
  | N + 1 => ord_step N (ord_all N)

theorem ord_any (v o : V) (lv fv lo fo : Value) (w : World) (hv : v.Is w lv fv) (ho : o.Is w lo fo) :
    Calls Try.prog 14 #[.agg #[.int .i64 v.kind, .bool v.yes, .int .i64 v.num, .string v.text, lv, fv], .agg #[.int .i64 o.kind, .bool o.yes, .int .i64 o.num, .string o.text, lo, fo]] w fun e w' => e = .returned (.int .i64 (v.ord o)) ∧ Below w.heap.size w w' :=
  ord_all v.dep v o lv fv lo fo w (Nat.le_refl _) hv ho

end Go.Proofs.Ytacphlceggbfcaa
end

section
namespace Go.Proofs.Ytacphlceggbfcaa.valOrders
open Go.RowKit

/-- a value in a box of six cells, b; what it leads to lies from n on -/
def In6 (w : World) (n b : Nat) (u : V) : Prop := ∃ a1 c1 a2 c2, Box w b 26 #[.int .i64 u.kind, .bool u.yes, .int .i64 u.num, .string u.text, .slice a1 u.list.length c1, .slice a2 u.fields.length c2] ∧ u.At w (fun q => n ≤ q) (.slice a1 u.list.length c1) (.slice a2 u.fields.length c2)

theorem In6.below {w W : World} {n b : Nat} {u : V} (h : In6 w n b u) (hb : Below w.heap.size w W) : In6 W n b u := by
  obtain ⟨a1, c1, a2, c2, h1, h2⟩ := h
  exact ⟨a1, c1, a2, c2, (hb.block b h1.lt).trans h1, V.At.move (fun q hS hlt => ⟨hS, hb.block q hlt⟩) hb.size _ (Nat.le_refl _) h2⟩

/-- a block that is neither the box nor from n on may turn -/
theorem In6.keep {w W : World} {n b x : Nat} {u : V} (h : In6 w n b u) (hx : x ≠ b) (hxn : x < n) (hk : ∀ q, q ≠ x → W.heap[q]? = w.heap[q]?) (hz : w.heap.size ≤ W.heap.size) : In6 W n b u := by
  obtain ⟨a1, c1, a2, c2, h1, h2⟩ := h
  exact ⟨a1, c1, a2, c2, (hk b (Ne.symm hx)).trans h1, V.At.move (fun q hS hlt => ⟨hS, hk q (by omega)⟩) hz _ (Nat.le_refl _) h2⟩

theorem box_keep {w W : World} {b x : Nat} {t : TypeId} {cs : Array Value} (h : Box w b t cs) (hx : x ≠ b) (hk : ∀ q, q ≠ x → W.heap[q]? = w.heap[q]?) : Box W b t cs := (hk b (Ne.symm hx)).trans h

/-- six cells stored into a box: the chain of stores as a walk lays it -/
def st6 (w : World) (b : Nat) (c0 c1 c2 c3 c4 c5 : Value) : World :=
  (((((w.setCell ⟨b, 0, none⟩ c0).setCell ⟨b, 1, none⟩ c1).setCell ⟨b, 2, none⟩ c2).setCell ⟨b, 3, none⟩ c3).setCell ⟨b, 4, none⟩ c4).setCell ⟨b, 5, none⟩ c5

theorem st6_box {w : World} {b : Nat} {t : TypeId} {x0 x1 x2 x3 x4 x5 : Value} (h : Box w b t #[x0, x1, x2, x3, x4, x5]) (c0 c1 c2 c3 c4 c5 : Value) : Box (st6 w b c0 c1 c2 c3 c4 c5) b t #[c0, c1, c2, c3, c4, c5] := by
  have h1 := (((((h.setSame 0 c0).setSame 1 c1).setSame 2 c2).setSame 3 c3).setSame 4 c4).setSame 5 c5
  exact h1
theorem st6_far {w : World} {b : Nat} (c0 c1 c2 c3 c4 c5 : Value) : ∀ q, q ≠ b → (st6 w b c0 c1 c2 c3 c4 c5).heap[q]? = w.heap[q]? := fun q hq =>
  (Below.heap_setCell _ ⟨b, 5, none⟩ _ q hq).trans ((Below.heap_setCell _ ⟨b, 4, none⟩ _ q hq).trans ((Below.heap_setCell _ ⟨b, 3, none⟩ _ q hq).trans ((Below.heap_setCell _ ⟨b, 2, none⟩ _ q hq).trans ((Below.heap_setCell _ ⟨b, 1, none⟩ _ q hq).trans (Below.heap_setCell _ ⟨b, 0, none⟩ _ q hq)))))
theorem st6_size {w : World} {b : Nat} (c0 c1 c2 c3 c4 c5 : Value) : (st6 w b c0 c1 c2 c3 c4 c5).heap.size = w.heap.size := by simp [st6, World.setCell]
theorem st6_below {a w : World} {B b : Nat} (h : Below B a w) (hB : B ≤ b) (c0 c1 c2 c3 c4 c5 : Value) : Below B a (st6 w b c0 c1 c2 c3 c4 c5) :=
  (((((h.setCell hB _).setCell hB _).setCell hB _).setCell hB _).setCell hB _).setCell hB _

/-- behind 'x = Right(x)' -/
theorem in6_new {W3 W4 : World} {n b : Nat} {t0 : Array Value} {x0 x1 x2 x3 x4 x5 : Value} (ht : t0 = #[x0, x1, x2, x3, x4, x5]) (hbox : Box W4 b 26 t0) (hb : b < n) (hn : n ≤ W3.heap.size) (u : V) (a1 : Option Addr) (c1 : Nat) (a2 : Option Addr) (c2 : Nat)
    (hat : u.At W4 (fun q => W3.heap.size ≤ q) (.slice a1 u.list.length c1) (.slice a2 u.fields.length c2)) :
    In6 (st6 W4 b (.int .i64 u.kind) (.bool u.yes) (.int .i64 u.num) (.string u.text) (.slice a1 u.list.length c1) (.slice a2 u.fields.length c2)) n b u := by
  subst ht
  refine ⟨a1, c1, a2, c2, st6_box hbox _ _ _ _ _ _, V.At.move (fun q hS hlt => ⟨by omega, st6_far _ _ _ _ _ _ q (by omega)⟩) (by rw [st6_size]; exact Nat.le_refl _) _ (Nat.le_refl _) hat⟩

theorem In6.six {w : World} {n b : Nat} {u : V} (h : In6 w n b u) : ∃ a1 c1 a2 c2, (w.cell? ⟨b, 0, none⟩ = some (.int .i64 u.kind) ∧ w.cell? ⟨b, 1, none⟩ = some (.bool u.yes) ∧ w.cell? ⟨b, 2, none⟩ = some (.int .i64 u.num) ∧ w.cell? ⟨b, 3, none⟩ = some (.string u.text) ∧ w.cell? ⟨b, 4, none⟩ = some (.slice a1 u.list.length c1) ∧ w.cell? ⟨b, 5, none⟩ = some (.slice a2 u.fields.length c2)) ∧ u.Is w (.slice a1 u.list.length c1) (.slice a2 u.fields.length c2) := by
  obtain ⟨a1, c1, a2, c2, h1, h2⟩ := h
  exact ⟨a1, c1, a2, c2, h1.six.1, h2.is⟩

theorem sign_any (n : Int) (hn : Three n) (w : World) : Calls Try.prog 12 #[.int .i64 n] w fun e w' => e = .returned (.int .i64 n) ∧ w = w' := by
  rcases hn with rfl | rfl | rfl <;>
    (go_enter Try.func12, Try.ntmps12
     go_wp2
     go_ret
     exact ⟨rfl, rfl⟩)

end Go.Proofs.Ytacphlceggbfcaa.valOrders
end

section
namespace Go.Proofs.Ytacphlceggbfcaa.valOrders
open Go.RowKit

theorem three_in (w : World) (cs ds es : Array Value) (t : TypeId) : ∀ w', Below (w.heap.size + 3) (((w.alloc (.cells cs t)).alloc (.cells ds t)).alloc (.cells es t)) w' →
    Below w.heap.size w w' ∧ w.heap.size + 2 < w'.heap.size ∧ Box w' w.heap.size t cs ∧ Box w' (w.heap.size + 1) t ds ∧ Box w' (w.heap.size + 2) t es := by
  intro w' hb
  have hz : (((w.alloc (.cells cs t)).alloc (.cells ds t)).alloc (.cells es t)).heap.size = w.heap.size + 3 := by simp
  have hb0 : Below w.heap.size w (((w.alloc (.cells cs t)).alloc (.cells ds t)).alloc (.cells es t)) := (((Below.refl _ w).alloc (Nat.le_refl _) _).alloc (by simp) _).alloc (by simp; omega) _
  have e1 : (w.alloc (.cells cs t)).heap.size = w.heap.size + 1 := by simp
  have e2 : ((w.alloc (.cells cs t)).alloc (.cells ds t)).heap.size = w.heap.size + 2 := by simp
  refine ⟨hb0.trans (hb.mono (by omega)), by have := hb.size; omega, ?_, ?_, ?_⟩
  · exact (hb.block _ (by omega)).trans (((Box.new w t cs).alloc (.cells ds t)).alloc (.cells es t))
  · have h := (Box.new (w.alloc (.cells cs t)) t ds).alloc (.cells es t)
    rw [e1] at h
    exact (hb.block _ (by omega)).trans h
  · have h := Box.new ((w.alloc (.cells cs t)).alloc (.cells ds t)) t es
    rw [e2] at h
    exact (hb.block _ (by omega)).trans h

set_option maxHeartbeats 4000000 in
set_option maxRecDepth 100000 in
theorem walk_f1 (v o p : V) (lv fv lo fo lp fp : Value) (w : World) (hv : v.Is w lv fv) (ho : o.Is w lo fo) (hp : p.Is w lp fp) (hf : Hid (v.few 0 = false)) :
    Calls Try.prog 3 #[.agg #[.int .i64 v.kind, .bool v.yes, .int .i64 v.num, .string v.text, lv, fv], .agg #[.int .i64 o.kind, .bool o.yes, .int .i64 o.num, .string o.text, lo, fo], .agg #[.int .i64 p.kind, .bool p.yes, .int .i64 p.num, .string p.text, lp, fp]] w fun e w' => e = .returned (.bool true) ∧ Below w.heap.size w w' := by
  obtain ⟨⟨a0, c0, rfl⟩, ⟨a0', c0', rfl⟩, _, _⟩ := hv.len
  obtain ⟨⟨a1, c1, rfl⟩, ⟨a1', c1', rfl⟩, _, _⟩ := ho.len
  obtain ⟨⟨a2, c2, rfl⟩, ⟨a2', c2', rfl⟩, _, _⟩ := hp.len
  have HS : Hid (∀ w', Below w.heap.size w w' → v.Is w' (.slice a0 v.list.length c0) (.slice a0' v.fields.length c0')) := Lib.hid (fun w' hb => hv.below hb)
  have HO : Hid (∀ w', Below w.heap.size w w' → o.Is w' (.slice a1 o.list.length c1) (.slice a1' o.fields.length c1')) := Lib.hid (fun w' hb => ho.below hb)
  have HP : Hid (∀ w', Below w.heap.size w w' → p.Is w' (.slice a2 p.list.length c2) (.slice a2' p.fields.length c2')) := Lib.hid (fun w' hb => hp.below hb)
  have HX : Hid (∀ w', Below (w.heap.size + 3) (((w.alloc (.cells #[.int .i64 v.kind, .bool v.yes, .int .i64 v.num, .string v.text, .slice a0 v.list.length c0, .slice a0' v.fields.length c0'] 26)).alloc (.cells #[.int .i64 o.kind, .bool o.yes, .int .i64 o.num, .string o.text, .slice a1 o.list.length c1, .slice a1' o.fields.length c1'] 26)).alloc (.cells #[.int .i64 p.kind, .bool p.yes, .int .i64 p.num, .string p.text, .slice a2 p.list.length c2, .slice a2' p.fields.length c2'] 26)) w' → Below w.heap.size w w' ∧ w.heap.size + 2 < w'.heap.size ∧ Box w' w.heap.size 26 #[.int .i64 v.kind, .bool v.yes, .int .i64 v.num, .string v.text, .slice a0 v.list.length c0, .slice a0' v.fields.length c0'] ∧ Box w' (w.heap.size + 1) 26 #[.int .i64 o.kind, .bool o.yes, .int .i64 o.num, .string o.text, .slice a1 o.list.length c1, .slice a1' o.fields.length c1'] ∧ Box w' (w.heap.size + 2) 26 #[.int .i64 p.kind, .bool p.yes, .int .i64 p.num, .string p.text, .slice a2 p.list.length c2, .slice a2' p.fields.length c2']) := Lib.hid (three_in w _ _ _ _)
  clear hv ho hp
  go_enter Try.func3, Try.ntmps3
  go_wp2_with fail
  refine (head_any _).mono ?_
  rintro e w1 ⟨rfl, hb1⟩
  have HB1 := Lib.hid (hb1.mono (B' := w.heap.size + 3) (by simp))
  clear hb1
  obtain ⟨hbw, _, bx0, bx1, bx2⟩ := HX.out _ HB1.out
  obtain ⟨⟨x0, x1, x2, x3, x4, x5⟩, f0, f1, f2, f3, f4, f5⟩ := bx0.six
  obtain ⟨⟨y0, y1, y2, y3, y4, y5⟩, _⟩ := bx1.six
  obtain ⟨⟨z0, z1, z2, z3, z4, z5⟩, _⟩ := bx2.six
  have hfew := few_any v _ _ w1 (HS.out _ hbw)
  rw [hf.out] at hfew
  have HFW := Lib.hid hfew
  clear hfew
  go_wp2_with fail
  refine HFW.out.mono ?_
  rintro e w2 ⟨rfl, hb⟩
  have HB2 := Lib.hid (HB1.out.trans (hb.mono (by have := (HX.out _ HB1.out).2.1; omega)))
  clear HFW hb x0 x1 x2 x3 x4 x5 y0 y1 y2 y3 y4 y5 z0 z1 z2 z3 z4 z5 f0 f1 f2 f3 f4 f5 bx0 bx1 bx2 hbw
  go_wp2
  go_ret
  exact ⟨rfl, (HX.out _ HB2.out).1⟩

set_option maxHeartbeats 4000000 in
set_option maxRecDepth 100000 in
theorem walk_f2 (v o p : V) (lv fv lo fo lp fp : Value) (w : World) (hv : v.Is w lv fv) (ho : o.Is w lo fo) (hp : p.Is w lp fp) (hf : Hid (v.few 0 = true)) (hg : Hid (o.few 0 = false)) :
    Calls Try.prog 3 #[.agg #[.int .i64 v.kind, .bool v.yes, .int .i64 v.num, .string v.text, lv, fv], .agg #[.int .i64 o.kind, .bool o.yes, .int .i64 o.num, .string o.text, lo, fo], .agg #[.int .i64 p.kind, .bool p.yes, .int .i64 p.num, .string p.text, lp, fp]] w fun e w' => e = .returned (.bool true) ∧ Below w.heap.size w w' := by
  obtain ⟨⟨a0, c0, rfl⟩, ⟨a0', c0', rfl⟩, _, _⟩ := hv.len
  obtain ⟨⟨a1, c1, rfl⟩, ⟨a1', c1', rfl⟩, _, _⟩ := ho.len
  obtain ⟨⟨a2, c2, rfl⟩, ⟨a2', c2', rfl⟩, _, _⟩ := hp.len
  have HS : Hid (∀ w', Below w.heap.size w w' → v.Is w' (.slice a0 v.list.length c0) (.slice a0' v.fields.length c0')) := Lib.hid (fun w' hb => hv.below hb)
  have HO : Hid (∀ w', Below w.heap.size w w' → o.Is w' (.slice a1 o.list.length c1) (.slice a1' o.fields.length c1')) := Lib.hid (fun w' hb => ho.below hb)
  have HP : Hid (∀ w', Below w.heap.size w w' → p.Is w' (.slice a2 p.list.length c2) (.slice a2' p.fields.length c2')) := Lib.hid (fun w' hb => hp.below hb)
  have HX : Hid (∀ w', Below (w.heap.size + 3) (((w.alloc (.cells #[.int .i64 v.kind, .bool v.yes, .int .i64 v.num, .string v.text, .slice a0 v.list.length c0, .slice a0' v.fields.length c0'] 26)).alloc (.cells #[.int .i64 o.kind, .bool o.yes, .int .i64 o.num, .string o.text, .slice a1 o.list.length c1, .slice a1' o.fields.length c1'] 26)).alloc (.cells #[.int .i64 p.kind, .bool p.yes, .int .i64 p.num, .string p.text, .slice a2 p.list.length c2, .slice a2' p.fields.length c2'] 26)) w' → Below w.heap.size w w' ∧ w.heap.size + 2 < w'.heap.size ∧ Box w' w.heap.size 26 #[.int .i64 v.kind, .bool v.yes, .int .i64 v.num, .string v.text, .slice a0 v.list.length c0, .slice a0' v.fields.length c0'] ∧ Box w' (w.heap.size + 1) 26 #[.int .i64 o.kind, .bool o.yes, .int .i64 o.num, .string o.text, .slice a1 o.list.length c1, .slice a1' o.fields.length c1'] ∧ Box w' (w.heap.size + 2) 26 #[.int .i64 p.kind, .bool p.yes, .int .i64 p.num, .string p.text, .slice a2 p.list.length c2, .slice a2' p.fields.length c2']) := Lib.hid (three_in w _ _ _ _)
  clear hv ho hp
  go_enter Try.func3, Try.ntmps3
  go_wp2_with fail
  refine (head_any _).mono ?_
  rintro e w1 ⟨rfl, hb1⟩
  have HB1 := Lib.hid (hb1.mono (B' := w.heap.size + 3) (by simp))
  clear hb1
  obtain ⟨hbw, _, bx0, bx1, bx2⟩ := HX.out _ HB1.out
  obtain ⟨⟨x0, x1, x2, x3, x4, x5⟩, f0, f1, f2, f3, f4, f5⟩ := bx0.six
  obtain ⟨⟨y0, y1, y2, y3, y4, y5⟩, _⟩ := bx1.six
  obtain ⟨⟨z0, z1, z2, z3, z4, z5⟩, _⟩ := bx2.six
  have hfew := few_any v _ _ w1 (HS.out _ hbw)
  rw [hf.out] at hfew
  have HFW := Lib.hid hfew
  clear hfew
  go_wp2_with fail
  refine HFW.out.mono ?_
  rintro e w2 ⟨rfl, hb⟩
  have HB2 := Lib.hid (HB1.out.trans (hb.mono (by have := (HX.out _ HB1.out).2.1; omega)))
  clear HFW hb x0 x1 x2 x3 x4 x5 y0 y1 y2 y3 y4 y5 z0 z1 z2 z3 z4 z5 f0 f1 f2 f3 f4 f5 bx0 bx1 bx2 hbw
  obtain ⟨hbw, _, bx0, bx1, bx2⟩ := HX.out _ HB2.out
  obtain ⟨⟨x0, x1, x2, x3, x4, x5⟩, f0, f1, f2, f3, f4, f5⟩ := bx0.six
  obtain ⟨⟨y0, y1, y2, y3, y4, y5⟩, _⟩ := bx1.six
  obtain ⟨⟨z0, z1, z2, z3, z4, z5⟩, _⟩ := bx2.six
  have hfew := few_any o _ _ w2 (HO.out _ hbw)
  rw [hg.out] at hfew
  have HFW := Lib.hid hfew
  clear hfew
  go_wp2_with fail
  refine HFW.out.mono ?_
  rintro e w3 ⟨rfl, hb⟩
  have HB3 := Lib.hid (HB2.out.trans (hb.mono (by have := (HX.out _ HB2.out).2.1; omega)))
  clear HFW hb x0 x1 x2 x3 x4 x5 y0 y1 y2 y3 y4 y5 z0 z1 z2 z3 z4 z5 f0 f1 f2 f3 f4 f5 bx0 bx1 bx2 hbw
  go_wp2
  go_ret
  exact ⟨rfl, (HX.out _ HB3.out).1⟩

set_option maxHeartbeats 4000000 in
set_option maxRecDepth 100000 in
theorem walk_f3 (v o p : V) (lv fv lo fo lp fp : Value) (w : World) (hv : v.Is w lv fv) (ho : o.Is w lo fo) (hp : p.Is w lp fp) (hf : Hid (v.few 0 = true)) (hg : Hid (o.few 0 = true)) (hh : Hid (p.few 0 = false)) :
    Calls Try.prog 3 #[.agg #[.int .i64 v.kind, .bool v.yes, .int .i64 v.num, .string v.text, lv, fv], .agg #[.int .i64 o.kind, .bool o.yes, .int .i64 o.num, .string o.text, lo, fo], .agg #[.int .i64 p.kind, .bool p.yes, .int .i64 p.num, .string p.text, lp, fp]] w fun e w' => e = .returned (.bool true) ∧ Below w.heap.size w w' := by
  obtain ⟨⟨a0, c0, rfl⟩, ⟨a0', c0', rfl⟩, _, _⟩ := hv.len
  obtain ⟨⟨a1, c1, rfl⟩, ⟨a1', c1', rfl⟩, _, _⟩ := ho.len
  obtain ⟨⟨a2, c2, rfl⟩, ⟨a2', c2', rfl⟩, _, _⟩ := hp.len
  have HS : Hid (∀ w', Below w.heap.size w w' → v.Is w' (.slice a0 v.list.length c0) (.slice a0' v.fields.length c0')) := Lib.hid (fun w' hb => hv.below hb)
  have HO : Hid (∀ w', Below w.heap.size w w' → o.Is w' (.slice a1 o.list.length c1) (.slice a1' o.fields.length c1')) := Lib.hid (fun w' hb => ho.below hb)
  have HP : Hid (∀ w', Below w.heap.size w w' → p.Is w' (.slice a2 p.list.length c2) (.slice a2' p.fields.length c2')) := Lib.hid (fun w' hb => hp.below hb)
  have HX : Hid (∀ w', Below (w.heap.size + 3) (((w.alloc (.cells #[.int .i64 v.kind, .bool v.yes, .int .i64 v.num, .string v.text, .slice a0 v.list.length c0, .slice a0' v.fields.length c0'] 26)).alloc (.cells #[.int .i64 o.kind, .bool o.yes, .int .i64 o.num, .string o.text, .slice a1 o.list.length c1, .slice a1' o.fields.length c1'] 26)).alloc (.cells #[.int .i64 p.kind, .bool p.yes, .int .i64 p.num, .string p.text, .slice a2 p.list.length c2, .slice a2' p.fields.length c2'] 26)) w' → Below w.heap.size w w' ∧ w.heap.size + 2 < w'.heap.size ∧ Box w' w.heap.size 26 #[.int .i64 v.kind, .bool v.yes, .int .i64 v.num, .string v.text, .slice a0 v.list.length c0, .slice a0' v.fields.length c0'] ∧ Box w' (w.heap.size + 1) 26 #[.int .i64 o.kind, .bool o.yes, .int .i64 o.num, .string o.text, .slice a1 o.list.length c1, .slice a1' o.fields.length c1'] ∧ Box w' (w.heap.size + 2) 26 #[.int .i64 p.kind, .bool p.yes, .int .i64 p.num, .string p.text, .slice a2 p.list.length c2, .slice a2' p.fields.length c2']) := Lib.hid (three_in w _ _ _ _)
  clear hv ho hp
  go_enter Try.func3, Try.ntmps3
  go_wp2_with fail
  refine (head_any _).mono ?_
  rintro e w1 ⟨rfl, hb1⟩
  have HB1 := Lib.hid (hb1.mono (B' := w.heap.size + 3) (by simp))
  clear hb1
  obtain ⟨hbw, _, bx0, bx1, bx2⟩ := HX.out _ HB1.out
  obtain ⟨⟨x0, x1, x2, x3, x4, x5⟩, f0, f1, f2, f3, f4, f5⟩ := bx0.six
  obtain ⟨⟨y0, y1, y2, y3, y4, y5⟩, _⟩ := bx1.six
  obtain ⟨⟨z0, z1, z2, z3, z4, z5⟩, _⟩ := bx2.six
  have hfew := few_any v _ _ w1 (HS.out _ hbw)
  rw [hf.out] at hfew
  have HFW := Lib.hid hfew
  clear hfew
  go_wp2_with fail
  refine HFW.out.mono ?_
  rintro e w2 ⟨rfl, hb⟩
  have HB2 := Lib.hid (HB1.out.trans (hb.mono (by have := (HX.out _ HB1.out).2.1; omega)))
  clear HFW hb x0 x1 x2 x3 x4 x5 y0 y1 y2 y3 y4 y5 z0 z1 z2 z3 z4 z5 f0 f1 f2 f3 f4 f5 bx0 bx1 bx2 hbw
  obtain ⟨hbw, _, bx0, bx1, bx2⟩ := HX.out _ HB2.out
  obtain ⟨⟨x0, x1, x2, x3, x4, x5⟩, f0, f1, f2, f3, f4, f5⟩ := bx0.six
  obtain ⟨⟨y0, y1, y2, y3, y4, y5⟩, _⟩ := bx1.six
  obtain ⟨⟨z0, z1, z2, z3, z4, z5⟩, _⟩ := bx2.six
  have hfew := few_any o _ _ w2 (HO.out _ hbw)
  rw [hg.out] at hfew
  have HFW := Lib.hid hfew
  clear hfew
  go_wp2_with fail
  refine HFW.out.mono ?_
  rintro e w3 ⟨rfl, hb⟩
  have HB3 := Lib.hid (HB2.out.trans (hb.mono (by have := (HX.out _ HB2.out).2.1; omega)))
  clear HFW hb x0 x1 x2 x3 x4 x5 y0 y1 y2 y3 y4 y5 z0 z1 z2 z3 z4 z5 f0 f1 f2 f3 f4 f5 bx0 bx1 bx2 hbw
  obtain ⟨hbw, _, bx0, bx1, bx2⟩ := HX.out _ HB3.out
  obtain ⟨⟨x0, x1, x2, x3, x4, x5⟩, f0, f1, f2, f3, f4, f5⟩ := bx0.six
  obtain ⟨⟨y0, y1, y2, y3, y4, y5⟩, _⟩ := bx1.six
  obtain ⟨⟨z0, z1, z2, z3, z4, z5⟩, _⟩ := bx2.six
  have hfew := few_any p _ _ w3 (HP.out _ hbw)
  rw [hh.out] at hfew
  have HFW := Lib.hid hfew
  clear hfew
  go_wp2_with fail
  refine HFW.out.mono ?_
  rintro e w4 ⟨rfl, hb⟩
  have HB4 := Lib.hid (HB3.out.trans (hb.mono (by have := (HX.out _ HB3.out).2.1; omega)))
  clear HFW hb x0 x1 x2 x3 x4 x5 y0 y1 y2 y3 y4 y5 z0 z1 z2 z3 z4 z5 f0 f1 f2 f3 f4 f5 bx0 bx1 bx2 hbw
  go_wp2
  go_ret
  exact ⟨rfl, (HX.out _ HB4.out).1⟩

end Go.Proofs.Ytacphlceggbfcaa.valOrders
end

section
namespace Go.Proofs.Ytacphlceggbfcaa.valOrders
open Go.RowKit

def St (w W : World) (u z q : V) : Prop := Below w.heap.size w W ∧ In6 W (w.heap.size + 3) w.heap.size u ∧ In6 W (w.heap.size + 3) (w.heap.size + 1) z ∧ In6 W (w.heap.size + 3) (w.heap.size + 2) q
theorem St.below {w W W' : World} {u z q : V} (h : St w W u z q) (hb : Below W.heap.size W W') : St w W' u z q := ⟨h.1.trans (hb.mono h.1.size), h.2.1.below hb, h.2.2.1.below hb, h.2.2.2.below hb⟩

set_option maxHeartbeats 4000000 in
set_option maxRecDepth 100000 in
theorem walk_main (v o p : V) (lv fv lo fo lp fp : Value) (w : World) (hv : v.Is w lv fv) (ho : o.Is w lo fo) (hp : p.Is w lp fp) (hf : Hid (v.few 0 = true)) (hg : Hid (o.few 0 = true)) (hh : Hid (p.few 0 = true)) :
    Calls Try.prog 3 #[.agg #[.int .i64 v.kind, .bool v.yes, .int .i64 v.num, .string v.text, lv, fv], .agg #[.int .i64 o.kind, .bool o.yes, .int .i64 o.num, .string o.text, lo, fo], .agg #[.int .i64 p.kind, .bool p.yes, .int .i64 p.num, .string p.text, lp, fp]] w fun e w' => e = .returned (.bool true) ∧ Below w.heap.size w w' := by
  obtain ⟨⟨a0, c0, rfl⟩, ⟨a0', c0', rfl⟩, _, _⟩ := hv.len
  obtain ⟨⟨a1, c1, rfl⟩, ⟨a1', c1', rfl⟩, _, _⟩ := ho.len
  obtain ⟨⟨a2, c2, rfl⟩, ⟨a2', c2', rfl⟩, _, _⟩ := hp.len
  have HS : Hid (∀ w', Below w.heap.size w w' → v.Is w' (.slice a0 v.list.length c0) (.slice a0' v.fields.length c0')) := Lib.hid (fun w' hb => hv.below hb)
  have HO : Hid (∀ w', Below w.heap.size w w' → o.Is w' (.slice a1 o.list.length c1) (.slice a1' o.fields.length c1')) := Lib.hid (fun w' hb => ho.below hb)
  have HP : Hid (∀ w', Below w.heap.size w w' → p.Is w' (.slice a2 p.list.length c2) (.slice a2' p.fields.length c2')) := Lib.hid (fun w' hb => hp.below hb)
  have HX : Hid (∀ w', Below (w.heap.size + 3) (((w.alloc (.cells #[.int .i64 v.kind, .bool v.yes, .int .i64 v.num, .string v.text, .slice a0 v.list.length c0, .slice a0' v.fields.length c0'] 26)).alloc (.cells #[.int .i64 o.kind, .bool o.yes, .int .i64 o.num, .string o.text, .slice a1 o.list.length c1, .slice a1' o.fields.length c1'] 26)).alloc (.cells #[.int .i64 p.kind, .bool p.yes, .int .i64 p.num, .string p.text, .slice a2 p.list.length c2, .slice a2' p.fields.length c2'] 26)) w' → Below w.heap.size w w' ∧ w.heap.size + 2 < w'.heap.size ∧ Box w' w.heap.size 26 #[.int .i64 v.kind, .bool v.yes, .int .i64 v.num, .string v.text, .slice a0 v.list.length c0, .slice a0' v.fields.length c0'] ∧ Box w' (w.heap.size + 1) 26 #[.int .i64 o.kind, .bool o.yes, .int .i64 o.num, .string o.text, .slice a1 o.list.length c1, .slice a1' o.fields.length c1'] ∧ Box w' (w.heap.size + 2) 26 #[.int .i64 p.kind, .bool p.yes, .int .i64 p.num, .string p.text, .slice a2 p.list.length c2, .slice a2' p.fields.length c2']) := Lib.hid (three_in w _ _ _ _)
  clear hv ho hp
  go_enter Try.func3, Try.ntmps3
  go_wp2_with fail
  refine (head_any _).mono ?_
  rintro e w1 ⟨rfl, hb1⟩
  have HB1 := Lib.hid (hb1.mono (B' := w.heap.size + 3) (by simp))
  clear hb1
  obtain ⟨hbw, _, bx0, bx1, bx2⟩ := HX.out _ HB1.out
  obtain ⟨⟨x0, x1, x2, x3, x4, x5⟩, f0, f1, f2, f3, f4, f5⟩ := bx0.six
  obtain ⟨⟨y0, y1, y2, y3, y4, y5⟩, _⟩ := bx1.six
  obtain ⟨⟨z0, z1, z2, z3, z4, z5⟩, _⟩ := bx2.six
  have hfew := few_any v _ _ w1 (HS.out _ hbw)
  rw [hf.out] at hfew
  have HFW := Lib.hid hfew
  clear hfew
  go_wp2_with fail
  refine HFW.out.mono ?_
  rintro e w2 ⟨rfl, hb⟩
  have HB2 := Lib.hid (HB1.out.trans (hb.mono (by have := (HX.out _ HB1.out).2.1; omega)))
  clear HFW hb x0 x1 x2 x3 x4 x5 y0 y1 y2 y3 y4 y5 z0 z1 z2 z3 z4 z5 f0 f1 f2 f3 f4 f5 bx0 bx1 bx2 hbw
  obtain ⟨hbw, _, bx0, bx1, bx2⟩ := HX.out _ HB2.out
  obtain ⟨⟨x0, x1, x2, x3, x4, x5⟩, f0, f1, f2, f3, f4, f5⟩ := bx0.six
  obtain ⟨⟨y0, y1, y2, y3, y4, y5⟩, _⟩ := bx1.six
  obtain ⟨⟨z0, z1, z2, z3, z4, z5⟩, _⟩ := bx2.six
  have hfew := few_any o _ _ w2 (HO.out _ hbw)
  rw [hg.out] at hfew
  have HFW := Lib.hid hfew
  clear hfew
  go_wp2_with fail
  refine HFW.out.mono ?_
  rintro e w3 ⟨rfl, hb⟩
  have HB3 := Lib.hid (HB2.out.trans (hb.mono (by have := (HX.out _ HB2.out).2.1; omega)))
  clear HFW hb x0 x1 x2 x3 x4 x5 y0 y1 y2 y3 y4 y5 z0 z1 z2 z3 z4 z5 f0 f1 f2 f3 f4 f5 bx0 bx1 bx2 hbw
  obtain ⟨hbw, _, bx0, bx1, bx2⟩ := HX.out _ HB3.out
  obtain ⟨⟨x0, x1, x2, x3, x4, x5⟩, f0, f1, f2, f3, f4, f5⟩ := bx0.six
  obtain ⟨⟨y0, y1, y2, y3, y4, y5⟩, _⟩ := bx1.six
  obtain ⟨⟨z0, z1, z2, z3, z4, z5⟩, _⟩ := bx2.six
  have hfew := few_any p _ _ w3 (HP.out _ hbw)
  rw [hh.out] at hfew
  have HFW := Lib.hid hfew
  clear hfew
  go_wp2_with fail
  refine HFW.out.mono ?_
  rintro e w4 ⟨rfl, hb⟩
  have HB4 := Lib.hid (HB3.out.trans (hb.mono (by have := (HX.out _ HB3.out).2.1; omega)))
  clear HFW hb x0 x1 x2 x3 x4 x5 y0 y1 y2 y3 y4 y5 z0 z1 z2 z3 z4 z5 f0 f1 f2 f3 f4 f5 bx0 bx1 bx2 hbw
  have hRU := fun W h => lright_any v 0 hf.out (.slice a0 v.list.length c0) (.slice a0' v.fields.length c0') W h
  have hRZ := fun W h => lright_any o 0 hg.out (.slice a1 o.list.length c1) (.slice a1' o.fields.length c1') W h
  have hRQ := fun W h => lright_any p 0 hh.out (.slice a2 p.list.length c2) (.slice a2' p.fields.length c2') W h
  have hOR := ord_rv v o
  generalize v.rv = u at hRU hOR
  generalize o.rv = z at hRZ hOR
  generalize p.rv = q at hRQ
  have HRU := Lib.hid hRU
  have HRZ := Lib.hid hRZ
  have HRQ := Lib.hid hRQ
  have HOR := Lib.hid hOR
  clear hRU hRZ hRQ hOR hf hg hh
  have HBW0 := Lib.hid (HX.out _ HB4.out)
  clear HB1 HB2 HB3
  go_upto_region 5 with fail
  go_cut [26] (fun _ wx => Hid (Below w.heap.size w wx ∧ w.heap.size + 2 < wx.heap.size ∧ In6 wx (w.heap.size + 3) w.heap.size u ∧ Box wx (w.heap.size + 1) 26 #[.int .i64 o.kind, .bool o.yes, .int .i64 o.num, .string o.text, .slice a1 o.list.length c1, .slice a1' o.fields.length c1'] ∧ Box wx (w.heap.size + 2) 26 #[.int .i64 p.kind, .bool p.yes, .int .i64 p.num, .string p.text, .slice a2 p.list.length c2, .slice a2' p.fields.length c2']))
  case first =>
    obtain ⟨hbw, hsz, s0, s1, s2⟩ := HBW0.out
    obtain ⟨⟨x0, x1, x2, x3, x4, x5⟩, f0, f1, f2, f3, f4, f5⟩ := s0.six
    have HBOX := Lib.hid s0
    have HS1 := Lib.hid s1
    have HS2 := Lib.hid s2
    have HRi := Lib.hid (HRU.out _ (HS.out _ hbw))
    have HBW := Lib.hid hbw
    clear s0 s1 s2 hbw
    go_wp2_with fail
    refine HRi.out.mono ?_
    rintro e w5 ⟨lu, fu, rfl, hat, hb5⟩
    obtain ⟨⟨ax, cx, rfl⟩, ⟨ay, cy, rfl⟩, _, _⟩ := hat.is.len
    have HAT := Lib.hid hat
    have HB5 := Lib.hid hb5
    have hz5 := hb5.size
    clear hat hb5 HRi x0 x1 x2 x3 x4 x5 f0 f1 f2 f3 f4 f5
    have HBX5 := Lib.hid ((HB5.out.block _ HBOX.out.lt).trans HBOX.out)
    obtain ⟨⟨x0, x1, x2, x3, x4, x5⟩, f0, f1, f2, f3, f4, f5⟩ := Box.six HBX5.out
    go_wp2_with fail
    go_meet
    refine Lib.hid ⟨st6_below (HBW.out.trans (HB5.out.mono HBW.out.size)) (by omega) _ _ _ _ _ _, ?_, in6_new rfl HBX5.out (by omega) (by omega) u ax cx ay cy HAT.out, box_keep ((HB5.out.block _ HS1.out.lt).trans HS1.out) (by omega) (st6_far _ _ _ _ _ _), box_keep ((HB5.out.block _ HS2.out.lt).trans HS2.out) (by omega) (st6_far _ _ _ _ _ _)⟩
    rw [show ∀ (W : World) (b : Nat) (c0 c1 c2 c3 c4 c5 : Value), ((((((W.setCell ⟨b, 0, none⟩ c0).setCell ⟨b, 1, none⟩ c1).setCell ⟨b, 2, none⟩ c2).setCell ⟨b, 3, none⟩ c3).setCell ⟨b, 4, none⟩ c4).setCell ⟨b, 5, none⟩ c5).heap.size = W.heap.size from fun W b c0 c1 c2 c3 c4 c5 => st6_size c0 c1 c2 c3 c4 c5]
    omega
  case rest =>
    have HCUT1 := hcut
    clear hcut
    go_upto_region 6 with fail
    go_cut [26] (fun _ wx => Hid (Below w.heap.size w wx ∧ w.heap.size + 2 < wx.heap.size ∧ In6 wx (w.heap.size + 3) w.heap.size u ∧ In6 wx (w.heap.size + 3) (w.heap.size + 1) z ∧ Box wx (w.heap.size + 2) 26 #[.int .i64 p.kind, .bool p.yes, .int .i64 p.num, .string p.text, .slice a2 p.list.length c2, .slice a2' p.fields.length c2']))
    case first =>
      obtain ⟨hbw, hsz, s0, s1, s2⟩ := HCUT1.out
      obtain ⟨⟨y0, y1, y2, y3, y4, y5⟩, f0, f1, f2, f3, f4, f5⟩ := s1.six
      have HBOX := Lib.hid s1
      have HS0 := Lib.hid s0
      have HS2 := Lib.hid s2
      have HRi := Lib.hid (HRZ.out _ (HO.out _ hbw))
      have HBW := Lib.hid hbw
      clear s0 s1 s2 hbw
      go_wp2_with fail
      refine HRi.out.mono ?_
      rintro e w5 ⟨lu, fu, rfl, hat, hb5⟩
      obtain ⟨⟨ax, cx, rfl⟩, ⟨ay, cy, rfl⟩, _, _⟩ := hat.is.len
      have HAT := Lib.hid hat
      have HB5 := Lib.hid hb5
      have hz5 := hb5.size
      clear hat hb5 HRi y0 y1 y2 y3 y4 y5 f0 f1 f2 f3 f4 f5
      have HBX5 := Lib.hid ((HB5.out.block _ HBOX.out.lt).trans HBOX.out)
      obtain ⟨⟨y0, y1, y2, y3, y4, y5⟩, f0, f1, f2, f3, f4, f5⟩ := Box.six HBX5.out
      go_wp2_with fail
      go_meet
      refine Lib.hid ⟨st6_below (HBW.out.trans (HB5.out.mono HBW.out.size)) (by omega) _ _ _ _ _ _, ?_, In6.keep (HS0.out.below HB5.out) (by omega) (by omega) (st6_far _ _ _ _ _ _) (Nat.le_of_eq (st6_size _ _ _ _ _ _).symm), in6_new rfl HBX5.out (by omega) (by omega) z ax cx ay cy HAT.out, box_keep ((HB5.out.block _ HS2.out.lt).trans HS2.out) (by omega) (st6_far _ _ _ _ _ _)⟩
      rw [show ∀ (W : World) (b : Nat) (c0 c1 c2 c3 c4 c5 : Value), ((((((W.setCell ⟨b, 0, none⟩ c0).setCell ⟨b, 1, none⟩ c1).setCell ⟨b, 2, none⟩ c2).setCell ⟨b, 3, none⟩ c3).setCell ⟨b, 4, none⟩ c4).setCell ⟨b, 5, none⟩ c5).heap.size = W.heap.size from fun W b c0 c1 c2 c3 c4 c5 => st6_size c0 c1 c2 c3 c4 c5]
      omega
    case rest =>
      have HCUT2 := hcut
      clear hcut
      go_upto_region 7 with fail
      go_cut [26] (fun _ wx => Hid (Below w.heap.size w wx ∧ w.heap.size + 2 < wx.heap.size ∧ In6 wx (w.heap.size + 3) w.heap.size u ∧ In6 wx (w.heap.size + 3) (w.heap.size + 1) z ∧ In6 wx (w.heap.size + 3) (w.heap.size + 2) q))
      case first =>
        obtain ⟨hbw, hsz, s0, s1, s2⟩ := HCUT2.out
        obtain ⟨⟨z0, z1, z2, z3, z4, z5⟩, f0, f1, f2, f3, f4, f5⟩ := s2.six
        have HBOX := Lib.hid s2
        have HS0 := Lib.hid s0
        have HS1 := Lib.hid s1
        have HRi := Lib.hid (HRQ.out _ (HP.out _ hbw))
        have HBW := Lib.hid hbw
        clear s0 s1 s2 hbw
        go_wp2_with fail
        refine HRi.out.mono ?_
        rintro e w5 ⟨lu, fu, rfl, hat, hb5⟩
        obtain ⟨⟨ax, cx, rfl⟩, ⟨ay, cy, rfl⟩, _, _⟩ := hat.is.len
        have HAT := Lib.hid hat
        have HB5 := Lib.hid hb5
        have hz5 := hb5.size
        clear hat hb5 HRi z0 z1 z2 z3 z4 z5 f0 f1 f2 f3 f4 f5
        have HBX5 := Lib.hid ((HB5.out.block _ HBOX.out.lt).trans HBOX.out)
        obtain ⟨⟨z0, z1, z2, z3, z4, z5⟩, f0, f1, f2, f3, f4, f5⟩ := Box.six HBX5.out
        go_wp2_with fail
        go_meet
        refine Lib.hid ⟨st6_below (HBW.out.trans (HB5.out.mono HBW.out.size)) (by omega) _ _ _ _ _ _, ?_, In6.keep (HS0.out.below HB5.out) (by omega) (by omega) (st6_far _ _ _ _ _ _) (Nat.le_of_eq (st6_size _ _ _ _ _ _).symm), In6.keep (HS1.out.below HB5.out) (by omega) (by omega) (st6_far _ _ _ _ _ _) (Nat.le_of_eq (st6_size _ _ _ _ _ _).symm), in6_new rfl HBX5.out (by omega) (by omega) q ax cx ay cy HAT.out⟩
        rw [show ∀ (W : World) (b : Nat) (c0 c1 c2 c3 c4 c5 : Value), ((((((W.setCell ⟨b, 0, none⟩ c0).setCell ⟨b, 1, none⟩ c1).setCell ⟨b, 2, none⟩ c2).setCell ⟨b, 3, none⟩ c3).setCell ⟨b, 4, none⟩ c4).setCell ⟨b, 5, none⟩ c5).heap.size = W.heap.size from fun W b c0 c1 c2 c3 c4 c5 => st6_size c0 c1 c2 c3 c4 c5]
        omega
      case rest =>
        have HCUT3 := hcut
        clear hcut
        clear HBW0 HX HS HO HP HRU HRZ HRQ HCUT1 HCUT2
        have HST : Hid (St w wc u z q) := Lib.hid ⟨HCUT3.out.1, HCUT3.out.2.2⟩
        clear HCUT3
        obtain ⟨X, HXX⟩ : ∃ X, Hid (u.cmp z = X ∧ Three X ∧ z.cmp u = -X) := ⟨_, Lib.hid ⟨rfl, three_all u z, cmp_anti u z⟩⟩
        obtain ⟨Y, HYY⟩ : ∃ Y, Hid (z.cmp q = Y ∧ Three Y) := ⟨_, Lib.hid ⟨rfl, three_all z q⟩⟩
        obtain ⟨Z, HZZ⟩ : ∃ Z, Hid (u.cmp q = Z ∧ Three Z) := ⟨_, Lib.hid ⟨rfl, three_all u q⟩⟩
        obtain ⟨ua, uc, ua', uc', ⟨u0, u1, u2, u3, u4, u5⟩, isu⟩ := (HST.out.2.1).six
        obtain ⟨za, zc, za', zc', ⟨z0, z1, z2, z3, z4, z5⟩, isz⟩ := (HST.out.2.2.1).six
        have hc := cmp_any u z _ _ _ _ _ isu isz
        rw [HXX.out.1] at hc
        have HC := Lib.hid hc
        clear hc
        go_wp2_with fail
        refine HC.out.mono ?_
        rintro e w6 ⟨rfl, hb⟩
        have HST' := Lib.hid (HST.out.below hb)
        clear HC hb HST u0 u1 u2 u3 u4 u5 z0 z1 z2 z3 z4 z5 isu isz
        have HST := HST'
        clear HST'
        have HC := Lib.hid (fun W => sign_any _ HXX.out.2.1 W)
        go_wp2_with fail
        refine (HC.out _).mono ?_
        rintro e wq ⟨rfl, rfl⟩
        clear HC
        obtain ⟨za, zc, za', zc', ⟨z0, z1, z2, z3, z4, z5⟩, isz⟩ := (HST.out.2.2.1).six
        obtain ⟨qa, qc, qa', qc', ⟨q0, q1, q2, q3, q4, q5⟩, isq⟩ := (HST.out.2.2.2).six
        have hc := cmp_any z q _ _ _ _ _ isz isq
        rw [HYY.out.1] at hc
        have HC := Lib.hid hc
        clear hc
        go_wp2_with fail
        refine HC.out.mono ?_
        rintro e w7 ⟨rfl, hb⟩
        have HST' := Lib.hid (HST.out.below hb)
        clear HC hb HST z0 z1 z2 z3 z4 z5 q0 q1 q2 q3 q4 q5 isz isq
        have HST := HST'
        clear HST'
        have HC := Lib.hid (fun W => sign_any _ HYY.out.2 W)
        go_wp2_with fail
        refine (HC.out _).mono ?_
        rintro e wq ⟨rfl, rfl⟩
        clear HC
        obtain ⟨ua, uc, ua', uc', ⟨u0, u1, u2, u3, u4, u5⟩, isu⟩ := (HST.out.2.1).six
        obtain ⟨qa, qc, qa', qc', ⟨q0, q1, q2, q3, q4, q5⟩, isq⟩ := (HST.out.2.2.2).six
        have hc := cmp_any u q _ _ _ _ _ isu isq
        rw [HZZ.out.1] at hc
        have HC := Lib.hid hc
        clear hc
        go_wp2_with fail
        refine HC.out.mono ?_
        rintro e w8 ⟨rfl, hb⟩
        have HST' := Lib.hid (HST.out.below hb)
        clear HC hb HST u0 u1 u2 u3 u4 u5 q0 q1 q2 q3 q4 q5 isu isq
        have HST := HST'
        clear HST'
        have HC := Lib.hid (fun W => sign_any _ HZZ.out.2 W)
        go_wp2_with fail
        refine (HC.out _).mono ?_
        rintro e wq ⟨rfl, rfl⟩
        clear HC
        obtain ⟨ua, uc, ua', uc', ⟨u0, u1, u2, u3, u4, u5⟩, isu⟩ := (HST.out.2.1).six
        obtain ⟨za, zc, za', zc', ⟨z0, z1, z2, z3, z4, z5⟩, isz⟩ := (HST.out.2.2.1).six
        have hc := ord_any u z _ _ _ _ _ isu isz
        rw [HOR.out, HXX.out.1] at hc
        have HC := Lib.hid hc
        clear hc
        go_wp2_with fail
        refine HC.out.mono ?_
        rintro e w9 ⟨rfl, hb⟩
        have HST' := Lib.hid (HST.out.below hb)
        clear HC hb HST u0 u1 u2 u3 u4 u5 z0 z1 z2 z3 z4 z5 isu isz
        have HST := HST'
        clear HST'
        obtain ⟨za, zc, za', zc', ⟨z0, z1, z2, z3, z4, z5⟩, isz⟩ := (HST.out.2.2.1).six
        obtain ⟨ua, uc, ua', uc', ⟨u0, u1, u2, u3, u4, u5⟩, isu⟩ := (HST.out.2.1).six
        have hc := cmp_any z u _ _ _ _ _ isz isu
        rw [HXX.out.2.2] at hc
        have HC := Lib.hid hc
        clear hc
        go_wp2_with fail
        refine HC.out.mono ?_
        rintro e w10 ⟨rfl, hb⟩
        have HST' := Lib.hid (HST.out.below hb)
        clear HC hb HST z0 z1 z2 z3 z4 z5 u0 u1 u2 u3 u4 u5 isz isu
        have HST := HST'
        clear HST'
        have HM : Hid (Three (-X)) := Lib.hid (by rcases HXX.out.2.1 with h | h | h <;> rw [h] <;> simp [Three])
        have HC := Lib.hid (fun W => sign_any _ HM.out W)
        go_wp2_with fail
        refine (HC.out _).mono ?_
        rintro e wq ⟨rfl, rfl⟩
        clear HC
        have hx1 : -1 ≤ X := by rcases HXX.out.2.1 with h | h | h <;> omega
        have hx2 : X ≤ 1 := by rcases HXX.out.2.1 with h | h | h <;> omega
        obtain ⟨ua, uc, ua', uc', ⟨u0, u1, u2, u3, u4, u5⟩, isu⟩ := (HST.out.2.1).six
        have hc := cmp_any u u _ _ _ _ _ isu isu
        rw [cmp_self u] at hc
        have HC := Lib.hid hc
        clear hc
        go_wp2_with fail
        refine HC.out.mono ?_
        rintro e w11 ⟨rfl, hb⟩
        have HST' := Lib.hid (HST.out.below hb)
        clear HC hb HST u0 u1 u2 u3 u4 u5 isu
        have HST := HST'
        clear HST'
        obtain ⟨ua, uc, ua', uc', ⟨u0, u1, u2, u3, u4, u5⟩, isu⟩ := (HST.out.2.1).six
        obtain ⟨za, zc, za', zc', ⟨z0, z1, z2, z3, z4, z5⟩, isz⟩ := (HST.out.2.2.1).six
        have hc := same_any u z _ _ _ _ _ isu isz
        rw [HXX.out.1] at hc
        have HC := Lib.hid hc
        clear hc
        go_wp2_with fail
        refine HC.out.mono ?_
        rintro e w12 ⟨rfl, hb⟩
        have HST' := Lib.hid (HST.out.below hb)
        clear HC hb HST u0 u1 u2 u3 u4 u5 z0 z1 z2 z3 z4 z5 isu isz
        have HST := HST'
        clear HST'
        have HTR := Lib.hid (cmp_tr u z q)
        by_cases hxy : X = Y
        · have hzx : Hid (Z = X) := Lib.hid (by
            obtain ⟨t1, t2, t3, t4⟩ := HTR.out
            rw [HXX.out.1, HYY.out.1, HZZ.out.1] at t1 t3 t4
            rcases HXX.out.2.1 with h | h | h
            · rw [h]; exact t3 h (by omega)
            · rw [t1 h]; exact hxy.symm
            · rw [h]; exact t4 h (by omega))
          have hzx' := hzx.out
          subst hzx'
          subst hxy
          have g1 : (Z == Z) = true := by simp
          have g2 : (Z != Z) = false := by simp
          go_wp2
          go_ret
          exact ⟨rfl, HST.out.1⟩
        · have g1 : (X == Y) = false := by rw [beq_eq_false_iff_ne]; exact hxy
          have g2 : (X != Y) = true := by rw [bne, g1]; rfl
          clear hxy
          go_wp2
          go_ret
          exact ⟨rfl, HST.out.1⟩

theorem walk3 (v o p : V) (lv fv lo fo lp fp : Value) (w : World) (hv : v.Is w lv fv) (ho : o.Is w lo fo) (hp : p.Is w lp fp) :
    Calls Try.prog 3 #[.agg #[.int .i64 v.kind, .bool v.yes, .int .i64 v.num, .string v.text, lv, fv], .agg #[.int .i64 o.kind, .bool o.yes, .int .i64 o.num, .string o.text, lo, fo], .agg #[.int .i64 p.kind, .bool p.yes, .int .i64 p.num, .string p.text, lp, fp]] w fun e w' => e = .returned (.bool true) ∧ Below w.heap.size w w' := by
  cases hf : v.few 0
  · exact walk_f1 v o p _ _ _ _ _ _ w hv ho hp (Lib.hid hf)
  · cases hg : o.few 0
    · exact walk_f2 v o p _ _ _ _ _ _ w hv ho hp (Lib.hid hf) (Lib.hid hg)
    · cases hh : p.few 0
      · exact walk_f3 v o p _ _ _ _ _ _ w hv ho hp (Lib.hid hf) (Lib.hid hg) (Lib.hid hh)
      · exact walk_main v o p _ _ _ _ _ _ w hv ho hp (Lib.hid hf) (Lib.hid hg) (Lib.hid hh)

theorem walk {w : World} (v : V) (lv fv : Value) (hv : v.Is w lv fv) (_nv : v.n64) (o : V) (lo fo : Value) (ho : o.Is w lo fo) (_no : o.n64) (p : V) (lp fp : Value) (hp : p.Is w lp fp) (_np : p.n64) :
    Calls Try.prog 3 #[.agg #[.int .i64 v.kind, .bool v.yes, .int .i64 v.num, .string v.text, lv, fv], .agg #[.int .i64 o.kind, .bool o.yes, .int .i64 o.num, .string o.text, lo, fo], .agg #[.int .i64 p.kind, .bool p.yes, .int .i64 p.num, .string p.text, lp, fp]] w fun e w' => e = .returned (.bool true) ∧ Below w.heap.size w w' := walk3 v o p _ _ _ _ _ _ w hv ho hp

end Go.Proofs.Ytacphlceggbfcaa.valOrders
end
end
