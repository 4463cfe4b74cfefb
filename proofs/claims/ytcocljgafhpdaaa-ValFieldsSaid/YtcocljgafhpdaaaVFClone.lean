/-
  slices.Clone at fields.
-/
import Derived.Test.YtcocljgafhpdaaaVStable
import Derived.Test.YtcocljgafhpdaaaIsRow
import Derived.WalkSpells
import Derived.Lib.SliceRun
import Derived.Outline
namespace Go.Proofs.Ytcocljgafhpdaaa
open Go.RowKit Go.Sort

def FC.fd (x : FC) : Fd := (x.nm, x.v)
/-- what the fields lead to lies in blocks of S -/
def RepAt (w : World) (S : Nat → Prop) (d : Array FC) : Prop := ∀ i (h : i < d.size), (d[i]).v.At w S (.slice (d[i]).a (d[i]).v.list.length (d[i]).c) (.slice (d[i]).b (d[i]).v.fields.length (d[i]).d)

/-- the fields of a slice, as they lie there -/
theorem fields_lie {w : World} {fs : List Fd} {fv : Value} (h : FAt w All fs fv) : ∃ (a : Option Addr) (c : Nat) (d : Array FC), fv = .slice a d.size c ∧ fs = (d.map FC.fd).toList ∧ RepAt w All d ∧
    (d.size = 0 ∨ ∃ b off, a = some ⟨b, off, none⟩ ∧ b < w.heap.size ∧ ∀ i (h : i < d.size), InAt w b (off + i * 7) (d[i]).enc) := by
  obtain ⟨a, c, rfl, _, _, hc⟩ := h
  rcases hc with rfl | ⟨b, off, rfl, _, hb, hC⟩
  · exact ⟨a, c, #[], rfl, by simp, fun i hi => by simp at hi, .inl rfl⟩
  · obtain ⟨l, hl, hp⟩ := choose_lists (p := fun i (x : FC) => ∃ (hi : i < fs.length), fs[i] = FC.fd x ∧ InAt w b (off + i * 7) x.enc ∧ x.v.At w All (.slice x.a x.v.list.length x.c) (.slice x.b x.v.fields.length x.d)) fs.length fun i hi => by
      obtain ⟨lv, fv, h1, h2⟩ := hC.get hi
      obtain ⟨⟨ax, cx, rfl⟩, ⟨ay, cy, rfl⟩, _, _⟩ := h2.is.len
      exact ⟨⟨(fs[i]).1, (fs[i]).2, ax, cx, ay, cy⟩, hi, rfl, h1, h2⟩
    refine ⟨some ⟨b, off, none⟩, c, l.toArray, by simp [hl], ?_, fun i hi => ?_, .inr ⟨b, off, rfl, hb, fun i hi => ?_⟩⟩
    · apply List.ext_getElem
      · simp [hl]
      · intro i h1 h2
        obtain ⟨_, h3, _⟩ := hp i (by rw [hl]; exact h1)
        simpa using h3
    · obtain ⟨_, _, _, h4⟩ := hp i (by simpa using hi)
      simpa using h4
    · obtain ⟨_, _, h3, _⟩ := hp i (by simpa using hi)
      simpa using h3

theorem flat_at (d : Array FC) (j : Nat) (h : j < d.size * 7) : ∃ (i q : Nat) (hi : i < d.size), j = i * 7 + q ∧ q < 7 ∧ (flatK FC.enc 7 d)[j]? = ((d[i]).enc)[q]? := by
  refine ⟨j / 7, j % 7, by omega, by omega, by omega, ?_⟩
  have hi : j / 7 < d.size := by omega
  have e := get_flatK FC.enc 7 d j h
  rw [Array.getElem?_eq_getElem (by rw [size_flatK]; exact h)]
  rw [getElem!_pos _ j (by rw [size_flatK]; exact h), getElem!_pos d (j / 7) hi] at e
  rw [e, List.getElem?_eq_getElem (by rw [FC.enc7]; omega), getElem!_pos _ (j % 7) (by rw [FC.enc7]; omega)]

theorem flat_one (d : Array FC) : ∀ u ∈ (flatK FC.enc 7 d).toList, u.oneCell' = true := by
  intro u hu
  obtain ⟨j, hj, rfl⟩ := List.getElem_of_mem hu
  have hj' : j < d.size * 7 := by simpa using hj
  obtain ⟨i, q, hi, _, hq, e⟩ := flat_at d j hj'
  have e2 : (flatK FC.enc 7 d)[j]? = some ((flatK FC.enc 7 d).toList[j]) := by rw [Array.getElem?_eq_getElem (by simpa using hj')]; simp
  rw [e2] at e
  exact FC.one (d[i]) _ (List.mem_of_getElem? e.symm)

/-- what a slice of fields that the call owns holds -/
theorem holds_own {w : World} {g : Nat} {arr : Array Value} {d : Array FC} (hB : Box w g 30 arr) (h : ∀ j, j < d.size * 7 → arr[j]? = (flatK FC.enc 7 d)[j]?) : HoldsK FC.enc 7 w g 0 d := by
  intro j hj
  have hj' : j < d.size * 7 := by simpa using hj
  refine ⟨?_, by rw [Nat.zero_add]; exact hB.free j⟩
  rw [Nat.zero_add, hB.cell, h j hj', Array.getElem?_eq_getElem (by simpa using hj'), getElem!_pos _ j (by simpa using hj')]
  rfl

theorem wpList_app_fs {ops : Array Oper} {rest : List Oper} {o : Oper} {a : Act} {w : World} {Q : Exit → Act → World → Prop} (hgd : o.guard = none) (s x : Operand)
    (ho : o.op = .call { callee := .builtin .append, args := #[s, x], argTypes := #[22, 22] })
    (B : Nat) (v : Value) (hs : a.eval s = v) (hown : w.ownsRow B 30 7 v 0 []) (b off c : Nat) (d : Array FC) (hd0 : 0 < d.size)
    (hx : a.eval x = .slice (some ⟨b, off, none⟩) d.size c) (hin : ∀ i (h : i < d.size), InAt w b (off + i * 7) (d[i]).enc) (hm : d.size ≤ 1000) (hB : B ≤ w.heap.size)
    (h : ∀ g cap arr w', Box w' g 30 arr → arr.size = cap * 7 → d.size ≤ cap → cap ≤ maxLen → HoldsK FC.enc 7 w' g 0 d → B ≤ g → Below B w w' → wpList Try.prog ops Q rest (a.put o.dst (.slice (some ⟨g, 0, none⟩) d.size cap)) w') :
    wpList Try.prog ops Q (o :: rest) a w := by
  obtain ⟨i, hi, hz, hi1, hi2⟩ := info_parts infoF
  refine wpList_plain hgd fun K hK => ?_
  obtain ⟨v', w', hr, ho', hu⟩ := run_app (P := Try.prog) w B 22 o.type 30 i _ 7 104 Try.underlying22 hi hz hi1 hi2 rfl (by decide) v 0 [] hown ⟨b, off, none⟩ d.size c (flatK FC.enc 7 d).toList (by simp)
    (fun j u hj => by
      have hjl : j < d.size * 7 := by have := (List.getElem?_eq_some_iff.1 hj).1; simpa using this
      obtain ⟨p, q, hp, rfl, _, e⟩ := flat_at d j hjl
      have e1 : ((⟨b, off, none⟩ : Addr).add (p * 7 + q)) = ⟨b, off + p * 7 + q, none⟩ := by
        have hn : ∀ n : Nat, (⟨b, off, none⟩ : Addr).add n = ⟨b, off + n, none⟩ := fun n => by unfold Addr.add; by_cases h0 : n = 0 <;> simp [h0]
        rw [hn, Nat.add_assoc]
      rw [e1]
      refine hin p hp q u ?_
      rw [← e]
      simpa using hj)
    (flat_one d) (by unfold maxLen; omega) (by omega) hB
  unfold Oper.wp execOp
  simp only [ho, resolve, invoke, builtin, Sem.run_bind, Sem.run_pure, Result.andThen_ok, List.map_toArray, List.map_cons, List.map_nil, hs, hx, hr]
  have hb : Below B w w' := (Below.refl B w).grown hu.1 hB fun k hk => (World.ownsRow.lt hown k hk).1
  rw [Nat.zero_add, List.nil_append] at ho'
  rcases ho'.2 with ⟨_, h0⟩ | ⟨g, cap, cur, rfl, h1, h2, h3, h4, h5, h6⟩
  · omega
  · refine hK _ _ (h g cap cur w' h2 h5 h3 h4 (holds_own h2 fun j hj => ?_) h1 hb)
    have e : cur.toList[j]? = (cur.toList.take (d.size * 7))[j]? := by rw [List.getElem?_take_of_lt hj]
    rw [← Array.getElem?_toList, e, h6, Array.getElem?_toList]

/-- a clone of some fields: a row of the call's own -/
def FCloneP (d : Array FC) (w : World) (e : Ending) (w' : World) : Prop :=
  ∃ g cap arr, e = .returned (.slice (some ⟨g, 0, none⟩) d.size cap) ∧ Box w' g 30 arr ∧ arr.size = cap * 7 ∧ d.size ≤ cap ∧ cap ≤ maxLen ∧ HoldsK FC.enc 7 w' g 0 d ∧ w.heap.size ≤ g ∧ Below w.heap.size w w'

set_option maxHeartbeats 1000000 in
set_option maxRecDepth 100000 in
theorem fclone_any (b off c : Nat) (d : Array FC) (hd0 : 0 < d.size) (hd : d.size ≤ 1000) (w : World) (hb : b < w.heap.size) (hin : ∀ i (h : i < d.size), InAt w b (off + i * 7) (d[i]).enc) :
    Calls Try.prog 33 #[.slice (some ⟨b, off, none⟩) d.size c] w (FCloneP d w) := by
  have hown := World.ownsRow_lit (base := w.heap.size) (e := 30) (size := 7) w #[] 0 (Nat.le_refl _) (by unfold maxLen; omega) rfl
  have hb0 : Below w.heap.size w (w.alloc (.cells #[] 30)) := (Below.refl _ w).alloc (Nat.le_refl _) _
  have HIN := Lib.hid (show ∀ i (h : i < d.size), InAt (w.alloc (.cells #[] 30)) b (off + i * 7) (d[i]).enc from fun i h => (hin i h).keep (Below.heap_alloc w _ b hb))
  have HB := Lib.hid (And.intro hown hb0)
  have heq := fun w' => Lib.run_eql_slice_nil (P := Try.prog) w' 22 30 (some ⟨b, off, none⟩) d.size c 0 0 Try.underlying22
  clear hin hown hb0
  go_enter Try.func33, Try.ntmps33
  go_wp2_with (at_builtin; refine Mark.out ?_)
  refine Mark.mk ?_
  refine wpList_app_fs rfl (.tmp 5) (.tmp 6) rfl w.heap.size (.slice (some ⟨w.heap.size, 0, none⟩) 0 0) rfl HB.out.1 b off c d hd0 rfl HIN.out hd (by simp) ?_
  intro g cap arr w' h1 h2 h3 h4 h5 h6 h7
  have HH := Lib.hid (And.intro h1 (And.intro h2 (And.intro h3 (And.intro h4 (And.intro h5 (And.intro h6 (HB.out.2.trans h7)))))))
  clear h1 h2 h3 h4 h5 h6 h7
  go_wp2
  go_ret
  exact ⟨g, cap, arr, rfl, HH.out⟩

end Go.Proofs.Ytcocljgafhpdaaa
