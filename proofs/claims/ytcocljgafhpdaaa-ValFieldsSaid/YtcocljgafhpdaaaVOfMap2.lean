/-
  val's OfMap, of one field or more.
-/
import Derived.Test.YtcocljgafhpdaaaVOfMap
import Derived.Sort.LotA
import Derived.Test.YtcocljgafhpdaaaRowB
namespace Go.Proofs.Ytcocljgafhpdaaa
open Go.RowKit Go.Sort

theorem cf_swo : SWO (ltOf FC.cf) := by
  have e : ∀ x y : FC, ltOf FC.cf x y = decide (x.nm.data.toList < y.nm.data.toList) := fun x y => by
    unfold ltOf FC.cf cmpL
    by_cases h : x.nm.data.toList < y.nm.data.toList
    · simp [h]
    · by_cases h2 : y.nm.data.toList < x.nm.data.toList <;> simp [h, h2]
  refine ⟨fun x => ?_, fun x y z h1 h2 => ?_, fun x y z h1 h2 => ?_⟩
  · rw [e]; exact decide_eq_false (lt_irr _)
  · rw [e] at *
    exact decide_eq_true (List.lt_trans (of_decide_eq_true h1) (of_decide_eq_true h2))
  · rw [e] at *
    have h1 := of_decide_eq_false h1
    have h2 := of_decide_eq_false h2
    refine decide_eq_false fun h => ?_
    rcases lt_tri x.nm.data.toList y.nm.data.toList with g | g | g
    · exact h1 g
    · rw [g] at h; exact h2 h
    · rcases lt_tri y.nm.data.toList z.nm.data.toList with q | q | q
      · exact h2 q
      · rw [q] at g; exact lt_asym h g
      · exact lt_asym h (List.lt_trans q g)

def sortF (d : Array FC) : Array FC := Sort.insertionSort (ltOf FC.cf) d 0 d.size
theorem sortF_size (d : Array FC) : (sortF d).size = d.size := sort_size _ d 0 d.size
theorem sortF_perm (d : Array FC) : (sortF d).toList.Perm d.toList := by
  have h := (insertionSort_holds (lt := ltOf FC.cf) cf_swo d 0 d.size (Nat.zero_le _) (Nat.le_refl _)).1.2.2
  have e1 : ((sortF d).extract 0 d.size).toList = (sortF d).toList := by simp [← sortF_size d]
  have e2 : (d.extract 0 d.size).toList = d.toList := by simp
  rw [← e1, ← e2]
  exact h
theorem sortF_mem {d : Array FC} {x : FC} (h : x ∈ sortF d) : x ∈ d := by
  have := (sortF_perm d).mem_iff.1 (Array.mem_toList_iff.2 h)
  exact Array.mem_toList_iff.1 this

/-- the row in the middle of the loop: what is kept ahead, what was there from i on -/
def RowR (D : Array FC) (cap : Nat) (arr0 arr : Array Value) (i : Nat) : Prop :=
  arr.size = cap * 7 ∧ (∀ p, i * 7 ≤ p → arr[p]? = arr0[p]?) ∧ ∀ j (h : j < (lastsTo D i).length), ∀ q u, ((lastsTo D i)[j].enc)[q]? = some u → arr[j * 7 + q]? = some u

theorem RowR.skip {D : Array FC} {cap : Nat} {arr0 arr : Array Value} {i : Nat} (h : RowR D cap arr0 arr i) (he : lastsTo D (i + 1) = lastsTo D i) : RowR D cap arr0 arr (i + 1) :=
  ⟨h.1, fun p hp => h.2.1 p (by omega), by rw [he]; exact h.2.2⟩

theorem RowR.keep {D : Array FC} {cap : Nat} {arr0 arr : Array Value} {i : Nat} (h : RowR D cap arr0 arr i) (x : FC) (he : lastsTo D (i + 1) = lastsTo D i ++ [x]) (hc : i < cap) : RowR D cap arr0 (aset arr ((lastsTo D i).length * 7) x.enc) (i + 1) := by
  have hk := lastsTo_length D i
  refine ⟨by rw [aset_size]; exact h.1, fun p hp => ?_, ?_⟩
  · rw [aset_far _ _ _ _ (.inr (by rw [FC.enc7]; omega))]
    exact h.2.1 p (by omega)
  · rw [he]
    intro j hj q u hq
    have hq7 : q < 7 := by have := (List.getElem?_eq_some_iff.1 hq).1; rwa [FC.enc7] at this
    by_cases hjl : j < (lastsTo D i).length
    · rw [List.getElem_append_left hjl] at hq
      rw [aset_far _ _ _ _ (.inl (by omega))]
      exact h.2.2 j hjl q u hq
    · obtain rfl : j = (lastsTo D i).length := by simp at hj; omega
      rw [List.getElem_append_right (Nat.le_refl _)] at hq
      simp only [Nat.sub_self, List.getElem_cons_zero] at hq
      exact aset_get _ _ _ (by rw [FC.enc7, h.1]; omega) q u hq

def OfMapP (f : List Fd) (w : World) (e : Ending) (w' : World) : Prop :=
  ∃ fv, e = .returned (.agg #[.int .i64 5, .bool false, .int .i64 0, .string ⟨#[]⟩, .slice none 0 0, fv]) ∧ (V.ofMap f).At w' (fun q => w.heap.size ≤ q) (.slice none 0 0) fv ∧ RowKit.Below w.heap.size w w'

/-- what of the fields is kept -/
def keptF (d : Array FC) : List FC := lastsTo (sortF d) d.size

set_option maxHeartbeats 4000000 in
set_option maxRecDepth 100000 in
theorem ofMap_some (b off c : Nat) (d : Array FC) (hd0 : 0 < d.size) (hd : d.size ≤ 20) (w : World) (hb : b < w.heap.size) (hin : ∀ i (h : i < d.size), InAt w b (off + i * 7) (d[i]).enc) (hrep : RepAt w All d) (hsm : ∀ x ∈ d, x.v.sm) :
    Calls Try.prog 12 #[.slice (some ⟨b, off, none⟩) d.size c] w (OfMapP ((keptF d).map FC.fd) w) := by
  have hz0 : (w.alloc (.cells #[.int .i64 0, .bool false, .int .i64 0, .string ⟨#[]⟩, .slice none 0 0, .slice none 0 0] 26)).heap.size = w.heap.size + 1 := by simp
  have hb0 : RowKit.Below w.heap.size w (w.alloc (.cells #[.int .i64 0, .bool false, .int .i64 0, .string ⟨#[]⟩, .slice none 0 0, .slice none 0 0] 26)) := (RowKit.Below.refl _ w).alloc (Nat.le_refl _) _
  have hZ : Box (w.alloc (.cells #[.int .i64 0, .bool false, .int .i64 0, .string ⟨#[]⟩, .slice none 0 0, .slice none 0 0] 26)) w.heap.size 26 #[.int .i64 0, .bool false, .int .i64 0, .string ⟨#[]⟩, .slice none 0 0, .slice none 0 0] := Box.new w _ _
  have hcl := fclone_any b off c d hd0 (by omega) (w.alloc (.cells #[.int .i64 0, .bool false, .int .i64 0, .string ⟨#[]⟩, .slice none 0 0, .slice none 0 0] 26)) (by rw [hz0]; omega) (fun i h => (hin i h).keep (hb0.block b hb))
  have HREP := Lib.hid (show ∀ w', RowKit.Below w.heap.size w w' → ∀ x ∈ d, x.v.Is w' (.slice x.a x.v.list.length x.c) (.slice x.b x.v.fields.length x.d) from fun w' hw x hx => by
    obtain ⟨i, hi, rfl⟩ := Array.getElem_of_mem hx
    exact V.Is.below (hrep i hi) hw)
  have HSM := Lib.hid hsm
  have HB := Lib.hid (And.intro hz0 (And.intro hb0 hZ))
  have HD0 := Lib.hid hd0
  clear hz0 hb0 hZ hrep hsm hin hb hd0
  go_enter Try.func12, Try.ntmps12
  go_wp2_with fail
  refine hcl.mono ?_
  rintro e w1 ⟨g, cap, arr, rfl, hBg, hasz, hdc, hcm, hHold, hg1, hb1⟩
  obtain ⟨hz0, hb0, hZ⟩ := HB.out
  rw [hz0] at hg1 hb1
  have hZ1 : Box w1 w.heap.size 26 #[.int .i64 0, .bool false, .int .i64 0, .string ⟨#[]⟩, .slice none 0 0, .slice none 0 0] := (hb1.block _ (by omega)).trans hZ
  have hb1w : RowKit.Below w.heap.size w w1 := hb0.trans (hb1.mono (by omega))
  have hsort := sort_any d hd cap g w1 hHold hBg.lt
  have HX1 := Lib.hid (And.intro hBg (And.intro hZ1 (And.intro hb1w (And.intro hg1 hasz))))
  clear hBg hHold hZ1 hb1w hb1 hz0 hb0 hZ hasz hcl
  go_wp2_with fail
  refine hsort.mono ?_
  rintro e w2 ⟨rfl, hsw, hH2, hgr⟩
  obtain ⟨hBg, hZ1, hb1w, hg1', hasz⟩ := HX1.out
  obtain ⟨arr0, hB2, hsz2, _⟩ := hsw _ _ hBg
  rw [hasz] at hsz2
  have hlt2 := hB2.lt
  have hZ2 : Box w2 w.heap.size 26 #[.int .i64 0, .bool false, .int .i64 0, .string ⟨#[]⟩, .slice none 0 0, .slice none 0 0] := (hgr.block _ hZ1.lt (fun e => by injection e; omega)).trans hZ1
  have hb2w : RowKit.Below w.heap.size w w2 := hb1w.grown hgr hb1w.size (fun k hk => by injection hk; omega)
  have hflat : ∀ i (h : i < (sortF d).size), ∀ q u, (((sortF d)[i]).enc)[q]? = some u → arr0[i * 7 + q]? = some u := fun i h q u hq => by
    have hq7 : q < 7 := by have := (List.getElem?_eq_some_iff.1 hq).1; rwa [FC.enc7] at this
    have hjl : i * 7 + q < (sortF d).size * 7 := by omega
    have h1 := (hH2 (i * 7 + q) (by rw [size_flatK]; exact hjl)).1
    rw [Nat.zero_add, hB2.cell] at h1
    obtain ⟨p, r, hp, he, hr, e⟩ := flat_at (sortF d) (i * 7 + q) hjl
    obtain ⟨rfl, rfl⟩ : p = i ∧ r = q := by omega
    have e2 : (flatK FC.enc 7 (sortF d))[p * 7 + r]? = some ((flatK FC.enc 7 (sortF d))[p * 7 + r]!) := by
      rw [Array.getElem?_eq_getElem (by rw [size_flatK]; exact hjl), getElem!_pos _ _ (by rw [size_flatK]; exact hjl)]
    rw [h1]
    rw [e2, hq] at e
    injection e with e
    rw [← e]
    rfl
  have hns : (sortF d).size = d.size := sortF_size d
  have hmem : ∀ x ∈ sortF d, x ∈ d := fun x hx => sortF_mem hx
  clear hsw hH2 hgr hsort
  generalize hDD : sortF d = D at hflat hns hmem
  have HKF : Hid (keptF d = lastsTo D d.size) := Lib.hid (by rw [← hDD]; rfl)
  clear hDD
  have HF := Lib.hid hflat
  have HN := Lib.hid hns
  have HM := Lib.hid hmem
  have HSZ := Lib.hid hsz2
  have hbase := Lib.hid (And.intro hB2 (And.intro hZ2 hb2w))
  clear hBg hZ1 hb1w hg1' hasz hflat hns hmem hB2 hZ2 hb2w hsz2
  go_wp2_with fail
  go_loopw [4, 15] (fun lv iv wr => ∃ (i : Nat) (arr' : Array Value), i ≤ d.size ∧ iv = .int .i64 i ∧ lv = .slice (some ⟨g, 0, none⟩) (lastsTo D i).length cap ∧ RowKit.Below w.heap.size w wr ∧ Box wr w.heap.size 26 #[.int .i64 0, .bool false, .int .i64 0, .string ⟨#[]⟩, .slice none 0 0, .slice none 0 0] ∧ Box wr g 30 arr' ∧ Hid (RowR D cap arr0 arr' i)) (fun _ iv _ => d.size - (intOf iv).toNat)
  case atStart => exact ⟨0, arr0, Nat.zero_le _, rfl, rfl, hbase.out.2.2, hbase.out.2.1, hbase.out.1, Lib.hid ⟨HSZ.out, fun _ _ => rfl, fun j h => by simp [lastsTo] at h⟩⟩
  case round =>
    obtain ⟨i, arr', hi, rfl, rfl, hbr, hZr, hBr, HR⟩ := hrel
    have hzr := hbr.size
    have hltg := hBr.lt
    have hltR := hZr.lt
    by_cases hid : i < d.size
    · have hid' : (i : Int) < (d.size : Int) := by omega
      have hi0 : (0 : Int) ≤ (i : Int) := by omega
      have hkl := lastsTo_length D i
      have hDi : i < D.size := by rw [HN.out]; exact hid
      -- the field that stands there
      have hcell : ∀ q u, ((D[i]).enc)[q]? = some u → wr.cell? ⟨g, i * 7 + q, none⟩ = some u := fun q u hq => by
        rw [hBr.cell, HR.out.2.1 (i * 7 + q) (by omega)]
        exact HF.out i hDi q u hq
      have hcell2 : i + 1 < d.size → ∃ h2 : i + 1 < D.size, wr.cell? ⟨g, (i + 1) * 7, none⟩ = some (.string (D[i + 1]).nm) := fun h2 => by
        have h3 : i + 1 < D.size := by rw [HN.out]; exact h2
        refine ⟨h3, ?_⟩
        have := HF.out (i + 1) h3 0 (.string (D[i + 1]).nm) rfl
        rw [hBr.cell, HR.out.2.1 ((i + 1) * 7) (by omega)]
        simpa using this
      have q0 := hcell 0 _ rfl
      have q1 := hcell 1 _ rfl
      have q2 := hcell 2 _ rfl
      have q3 := hcell 3 _ rfl
      have q4 := hcell 4 _ rfl
      have q5 := hcell 5 _ rfl
      have q6 := hcell 6 _ rfl
      simp only [Nat.add_zero] at q0
      have hsucc : Hid (lastsTo D (i + 1) = if i + 1 = D.size ∨ ∃ h2 : i + 1 < D.size, (D[i + 1]).nm ≠ (D[i]).nm then lastsTo D i ++ [D[i]] else lastsTo D i) := Lib.hid (by rw [lastsTo, dif_pos hDi])
      clear hcell
      have HI := Lib.hid (show IntKind.i64.wrap ((i : Int) + 1) = (i : Int) + 1 ∧ (0 : Int) ≤ (i : Int) + 1 ∧ ((i : Int) + 1).toNat = i + 1 by rw [IntKind.wrap_i64]; omega)
      generalize D[i] = x at q0 q1 q2 q3 q4 q5 q6 hsucc
      obtain ⟨nm, v, ax, cx, bx, dx⟩ := x
      have HRR := Lib.hid (And.intro hbr (And.intro hZr (And.intro hBr (And.intro hltg (And.intro hltR (And.intro hzr hkl))))))
      by_cases hl : i + 1 = d.size
      · have hE : Hid (lastsTo D (i + 1) = lastsTo D i ++ [⟨nm, v, ax, cx, bx, dx⟩]) := Lib.hid (by rw [hsucc.out, if_pos (.inl (by rw [HN.out]; exact hl))])
        have e0 : (((i : Int) + 1) == (d.size : Int)) = true := by rw [beq_iff_eq]; omega
        obtain ⟨r1, r2, r3⟩ := HI.out
        clear hcell2 hsucc hl hbr hZr hBr hltg hltR hzr hkl
        go_wp2_with fail
        go_quiet (fail)
        go_wp2_with (at_builtin; refine Mark.out ?_)
        refine Mark.mk ?_
        obtain ⟨hbr, hZr, hBr, hltg, hltR, hzr, hkl⟩ := HRR.out
        have hBq : Box ((wr.alloc (.cells #[.string nm, .int .i64 v.kind, .bool v.yes, .int .i64 v.num, .string v.text, .slice ax v.list.length cx, .slice bx v.fields.length dx] 30)).drewN nq) g 30 arr' := hBr.alloc (.cells #[.string nm, .int .i64 v.kind, .bool v.yes, .int .i64 v.num, .string v.text, .slice ax v.list.length cx, .slice bx v.fields.length dx] 30)
        refine wpList_app_keep ((wr.alloc (.cells #[.string nm, .int .i64 v.kind, .bool v.yes, .int .i64 v.num, .string v.text, .slice ax v.list.length cx, .slice bx v.fields.length dx] 30)).drewN nq) (wr.heap.size + 1) (by simp) rfl (.tmp 36) (.tmp 38) rfl g (lastsTo D i).length cap rfl arr' hBq HR.out.1 (by omega) ⟨nm, v, ax, cx, bx, dx⟩ _ rfl 1 rfl ?_
        have hb5 := Go.Proofs.Ytcocljgafhpdaaa.Below.sets (FC.enc ⟨nm, v, ax, cx, bx, dx⟩) ((lastsTo D i).length * 7) ((rowB.below_drewN (hbr.alloc hzr (.cells #[.string nm, .int .i64 v.kind, .bool v.yes, .int .i64 v.num, .string v.text, .slice ax v.list.length cx, .slice bx v.fields.length dx] 30)) nq).alloc (by simp; omega) (.cells #[.string nm, .int .i64 v.kind, .bool v.yes, .int .i64 v.num, .string v.text, .slice ax v.list.length cx, .slice bx v.fields.length dx] 30)) (g := g) (by omega)
        have hZ5 : Box (sets (((wr.alloc (.cells #[.string nm, .int .i64 v.kind, .bool v.yes, .int .i64 v.num, .string v.text, .slice ax v.list.length cx, .slice bx v.fields.length dx] 30)).drewN nq).alloc (.cells #[.string nm, .int .i64 v.kind, .bool v.yes, .int .i64 v.num, .string v.text, .slice ax v.list.length cx, .slice bx v.fields.length dx] 30)) g ((lastsTo D i).length * 7) (FC.enc ⟨nm, v, ax, cx, bx, dx⟩)) w.heap.size 26 #[.int .i64 0, .bool false, .int .i64 0, .string ⟨#[]⟩, .slice none 0 0, .slice none 0 0] := (sets_far _ _ _ _ (by omega)).trans (Box.alloc (show Box ((wr.alloc (.cells #[.string nm, .int .i64 v.kind, .bool v.yes, .int .i64 v.num, .string v.text, .slice ax v.list.length cx, .slice bx v.fields.length dx] 30)).drewN nq) w.heap.size 26 #[.int .i64 0, .bool false, .int .i64 0, .string ⟨#[]⟩, .slice none 0 0, .slice none 0 0] from hZr.alloc (.cells #[.string nm, .int .i64 v.kind, .bool v.yes, .int .i64 v.num, .string v.text, .slice ax v.list.length cx, .slice bx v.fields.length dx] 30)) _)
        have hB5 := Box.sets (FC.enc ⟨nm, v, ax, cx, bx, dx⟩) ((lastsTo D i).length * 7) (hBq.alloc (.cells #[.string nm, .int .i64 v.kind, .bool v.yes, .int .i64 v.num, .string v.text, .slice ax v.list.length cx, .slice bx v.fields.length dx] 30))
        have HE5 := Lib.hid (And.intro hb5 (And.intro hZ5 hB5))
        clear hbr hZr hBr hltg hltR hzr hkl hBq hb5 hZ5 hB5 r1 r2 r3
        go_wp2
        go_roundw
        case rel => exact ⟨i + 1, _, by omega, by go_num, by rw [hE.out]; simp, HE5.out.1, HE5.out.2.1, HE5.out.2.2, Lib.hid (HR.out.keep _ hE.out (by omega))⟩
        case measure => simp [intOf]; omega
      · have hl2 : i + 1 < d.size := by omega
        obtain ⟨h2, p0⟩ := hcell2 hl2
        have p1 : (wr.alloc (.cells #[.string nm, .int .i64 v.kind, .bool v.yes, .int .i64 v.num, .string v.text, .slice ax v.list.length cx, .slice bx v.fields.length dx] 30)).cell? ⟨g, (i + 1) * 7, none⟩ = some (.string (D[i + 1]).nm) := (World.cell?_alloc_lt wr _ ⟨g, (i + 1) * 7, none⟩ hltg).trans p0
        have e0 : (((i : Int) + 1) == (d.size : Int)) = false := by rw [beq_eq_false_iff_ne]; omega
        have hl3 : (i : Int) + 1 < (d.size : Int) := by omega
        obtain ⟨nm2, HNM⟩ : ∃ n, (D[i + 1]).nm = n := ⟨_, rfl⟩
        rw [HNM] at p0 p1
        by_cases hnn : nm2 = nm
        · have hE : Hid (lastsTo D (i + 1) = lastsTo D i) := Lib.hid (by
            rw [hsucc.out, if_neg]
            rintro (h | ⟨_, h⟩)
            · rw [HN.out] at h; omega
            · exact h (HNM.trans hnn))
          have g1 : (nm2.toList == nm.toList) = true := by rw [hnn, beq_iff_eq]
          have g2 : (nm2.toList != nm.toList) = false := by rw [bne, g1]; rfl
          obtain ⟨r1, r2, r3⟩ := HI.out
          clear hcell2 hsucc hl hbr hZr hBr hltg hltR hzr hkl hl2 h2 p0 hnn HNM
          go_wp2_with fail
          go_quiet (fail)
          clear r1 r2 r3
          obtain ⟨hbr, hZr, hBr, hltg, hltR, hzr, hkl⟩ := HRR.out
          have HE5 := Lib.hid (fun n => And.intro (rowB.below_drewN (hbr.alloc hzr (.cells #[.string nm, .int .i64 v.kind, .bool v.yes, .int .i64 v.num, .string v.text, .slice ax v.list.length cx, .slice bx v.fields.length dx] 30)) n) (And.intro (hZr.alloc (.cells #[.string nm, .int .i64 v.kind, .bool v.yes, .int .i64 v.num, .string v.text, .slice ax v.list.length cx, .slice bx v.fields.length dx] 30)) (hBr.alloc (.cells #[.string nm, .int .i64 v.kind, .bool v.yes, .int .i64 v.num, .string v.text, .slice ax v.list.length cx, .slice bx v.fields.length dx] 30))))
          clear hbr hZr hBr hltg hltR hzr hkl
          go_wp2
          go_roundw
          case rel => exact ⟨i + 1, arr', by omega, by go_num, by rw [hE.out], (HE5.out _).1, (HE5.out 0).2.1, (HE5.out 0).2.2, Lib.hid (HR.out.skip hE.out)⟩
          case measure => simp [intOf]; omega
        · have hE : Hid (lastsTo D (i + 1) = lastsTo D i ++ [⟨nm, v, ax, cx, bx, dx⟩]) := Lib.hid (by rw [hsucc.out, if_pos (.inr ⟨h2, by rw [HNM]; exact hnn⟩)])
          have g1 : (nm2.toList == nm.toList) = false := by
            rw [beq_eq_false_iff_ne, Lib.toList_data, Lib.toList_data]; intro e; exact hnn (ByteArray.ext (Array.toList_inj.1 e))
          have g2 : (nm2.toList != nm.toList) = true := by rw [bne, g1]; rfl
          obtain ⟨r1, r2, r3⟩ := HI.out
          clear hcell2 hsucc hl hbr hZr hBr hltg hltR hzr hkl hl2 h2 p0 hnn HNM
          go_wp2_with fail
          go_quiet (fail)
          go_wp2_with (at_builtin; refine Mark.out ?_)
          refine Mark.mk ?_
          obtain ⟨hbr, hZr, hBr, hltg, hltR, hzr, hkl⟩ := HRR.out
          have hBq : Box ((wr.alloc (.cells #[.string nm, .int .i64 v.kind, .bool v.yes, .int .i64 v.num, .string v.text, .slice ax v.list.length cx, .slice bx v.fields.length dx] 30)).drewN nq) g 30 arr' := hBr.alloc (.cells #[.string nm, .int .i64 v.kind, .bool v.yes, .int .i64 v.num, .string v.text, .slice ax v.list.length cx, .slice bx v.fields.length dx] 30)
          refine wpList_app_keep ((wr.alloc (.cells #[.string nm, .int .i64 v.kind, .bool v.yes, .int .i64 v.num, .string v.text, .slice ax v.list.length cx, .slice bx v.fields.length dx] 30)).drewN nq) (wr.heap.size + 1) (by simp) rfl (.tmp 36) (.tmp 38) rfl g (lastsTo D i).length cap rfl arr' hBq HR.out.1 (by omega) ⟨nm, v, ax, cx, bx, dx⟩ _ rfl 1 rfl ?_
          have hb5 := Go.Proofs.Ytcocljgafhpdaaa.Below.sets (FC.enc ⟨nm, v, ax, cx, bx, dx⟩) ((lastsTo D i).length * 7) ((rowB.below_drewN (hbr.alloc hzr (.cells #[.string nm, .int .i64 v.kind, .bool v.yes, .int .i64 v.num, .string v.text, .slice ax v.list.length cx, .slice bx v.fields.length dx] 30)) nq).alloc (by simp; omega) (.cells #[.string nm, .int .i64 v.kind, .bool v.yes, .int .i64 v.num, .string v.text, .slice ax v.list.length cx, .slice bx v.fields.length dx] 30)) (g := g) (by omega)
          have hZ5 : Box (sets (((wr.alloc (.cells #[.string nm, .int .i64 v.kind, .bool v.yes, .int .i64 v.num, .string v.text, .slice ax v.list.length cx, .slice bx v.fields.length dx] 30)).drewN nq).alloc (.cells #[.string nm, .int .i64 v.kind, .bool v.yes, .int .i64 v.num, .string v.text, .slice ax v.list.length cx, .slice bx v.fields.length dx] 30)) g ((lastsTo D i).length * 7) (FC.enc ⟨nm, v, ax, cx, bx, dx⟩)) w.heap.size 26 #[.int .i64 0, .bool false, .int .i64 0, .string ⟨#[]⟩, .slice none 0 0, .slice none 0 0] := (sets_far _ _ _ _ (by omega)).trans (Box.alloc (show Box ((wr.alloc (.cells #[.string nm, .int .i64 v.kind, .bool v.yes, .int .i64 v.num, .string v.text, .slice ax v.list.length cx, .slice bx v.fields.length dx] 30)).drewN nq) w.heap.size 26 #[.int .i64 0, .bool false, .int .i64 0, .string ⟨#[]⟩, .slice none 0 0, .slice none 0 0] from hZr.alloc (.cells #[.string nm, .int .i64 v.kind, .bool v.yes, .int .i64 v.num, .string v.text, .slice ax v.list.length cx, .slice bx v.fields.length dx] 30)) _)
          have hB5 := Box.sets (FC.enc ⟨nm, v, ax, cx, bx, dx⟩) ((lastsTo D i).length * 7) (hBq.alloc (.cells #[.string nm, .int .i64 v.kind, .bool v.yes, .int .i64 v.num, .string v.text, .slice ax v.list.length cx, .slice bx v.fields.length dx] 30))
          have HE5 := Lib.hid (And.intro hb5 (And.intro hZ5 hB5))
          clear hbr hZr hBr hltg hltR hzr hkl hBq hb5 hZ5 hB5 r1 r2 r3
          go_wp2
          go_roundw
          case rel => exact ⟨i + 1, _, by omega, by go_num, by rw [hE.out]; simp, HE5.out.1, HE5.out.2.1, HE5.out.2.2, Lib.hid (HR.out.keep _ hE.out (by omega))⟩
          case measure => simp [intOf]; omega
    · obtain rfl : i = d.size := by omega
      have hkl := lastsTo_length D d.size
      have hall : ∀ x ∈ lastsTo D d.size, x ∈ d := fun x hx => HM.out x (lastsTo_mem D d.size x hx)
      have hF := row_fields (S := All) hBr trivial (Nat.le_trans hkl hdc) hcm HR.out.2.2 (fun x hx => HREP.out wr hbr x (hall x hx))
      have hcl2 := cloneFields_any (depF ((lastsTo D d.size).map FC.fd)) (clone_all _) ((lastsTo D d.size).map FC.fd) (fun p hp => depF_mem hp) (fun p hp => by
        obtain ⟨x, hx, rfl⟩ := List.mem_map.1 hp
        exact HSM.out x (hall x hx)) (by rw [List.length_map]; omega) _ wr hF
      have HX := Lib.hid (And.intro hbr (And.intro hZr hltR))
      clear hF hall hbr hZr hBr hkl hdc hcm
      generalize hLL : (lastsTo D d.size).map FC.fd = L at hcl2
      have HKL : Hid ((keptF d).map FC.fd = L) := Lib.hid (by rw [HKF.out]; exact hLL)
      clear hLL
      go_wp2_with fail
      refine hcl2.mono ?_
      rintro e w5 ⟨lv', rfl, hF5, hb5⟩
      obtain ⟨qx, qc, rfl, _, _, _⟩ := id hF5
      obtain ⟨hbr, hZr, hltR⟩ := HX.out
      have hZ5 : Box w5 w.heap.size 26 #[.int .i64 0, .bool false, .int .i64 0, .string ⟨#[]⟩, .slice none 0 0, .slice none 0 0] := (hb5.block _ hltR).trans hZr
      have hb5w := hbr.trans (hb5.mono hzr)
      have hF6 := Box.sets [.int .i64 5, .bool false, .int .i64 0, .string ⟨#[]⟩, .slice none 0 0, .slice qx L.length qc] 0 hZ5
      obtain ⟨⟨k0, k1, k2, k3, k4, k5⟩, _⟩ := Box.six (c0 := .int .i64 5) (c1 := .bool false) (c2 := .int .i64 0) (c3 := .string ⟨#[]⟩) (c4 := .slice none 0 0) (c5 := .slice qx L.length qc) hF6
      simp only [sets, Nat.zero_add, Nat.reduceAdd] at k0 k1 k2 k3 k4 k5
      have hb6 := Go.Proofs.Ytcocljgafhpdaaa.Below.sets [.int .i64 5, .bool false, .int .i64 0, .string ⟨#[]⟩, .slice none 0 0, .slice qx L.length qc] 0 hb5w (g := w.heap.size) (Nat.le_refl _)
      have hat6 : (V.ofMap L).At (sets w5 w.heap.size 0 [.int .i64 5, .bool false, .int .i64 0, .string ⟨#[]⟩, .slice none 0 0, .slice qx L.length qc]) (fun q => w.heap.size ≤ q) (.slice none 0 0) (.slice qx L.length qc) :=
        V.at_iff.2 ⟨⟨none, 0, rfl, Nat.le_refl _, by unfold maxLen; omega, .inl rfl⟩, FAt.move (fun b hb _ => ⟨by omega, sets_far _ _ _ _ (by omega)⟩) (by rw [sets_size]; exact Nat.le_refl _) hF5⟩
      obtain ⟨⟨z0, z1, z2, z3, z4, z5⟩, s0, s1, s2, s3, s4, s5⟩ := hZ5.six
      have HE := Lib.hid (And.intro hb6 hat6)
      clear hF6 hF5 hb5 hbr hZr hltR hZ5 hb5w hb6 hat6 hcl2
      go_wp2
      refine bodyPost_ret (v := .agg #[.int .i64 5, .bool false, .int .i64 0, .string ⟨#[]⟩, .slice none 0 0, .slice qx L.length qc]) (by simp [results, Try.results12, go_sem, k0, k1, k2, k3, k4, k5]) rfl ⟨_, rfl, by rw [HKL.out]; exact HE.out.2, HE.out.1⟩

end Go.Proofs.Ytcocljgafhpdaaa
