/-
  schema: which collections are right: the contracts.
-/
import Derived.Test.YtidbiefenjnodaaSIx
import Derived.Test.YtidbiefenjnodaaMid
import Derived.StillTailTactics
import Derived.Deep.RegionHeld
import Derived.Deep.DeepCutAuto
import Derived.Outline
namespace Go.Proofs.Ytidbiefenjnodaa
open Go.RowKit

set_option linter.unusedVariables false
set_option linter.unusedSimpArgs false

def isN (s : ByteArray) : Bool := !s.toList.isEmpty && decide (s.size ≤ 40)
def rightI (x : Ix) : Bool := isN x.name && decide (x.field.size ≤ 40)

theorem isName_any (s : ByteArray) (w : World) :
    Calls Try.prog 28 #[.string s] w fun e w' => e = .returned (.bool (isN s)) ∧ w = w' := by
  go_enter Try.func28, Try.ntmps28
  go_wp2
  all_goals
    go_ret
    refine ⟨?_, rfl⟩
    simp_all [isN]
    try (congr 1; exact decide_eq_decide.2 (by omega))

theorem iright_any (x : Ix) (w : World) :
    Calls Try.prog 29 #[.agg #[.string x.name, .string x.field, .bool x.uniq]] w fun e w' => e = .returned (.bool (rightI x)) ∧ Below w.heap.size w w' := by
  obtain ⟨n, f, u⟩ := x
  have HB := Lib.hid ((Below.refl _ w).alloc (Nat.le_refl _) (.cells #[.string n, .string f, .bool u] 32))
  have HN := Lib.hid (isName_any n (w.alloc (.cells #[.string n, .string f, .bool u] 32)))
  have HR : Hid (rightI ⟨n, f, u⟩ = (isN n && decide (f.size ≤ 40))) := Lib.hid rfl
  obtain ⟨r, hr⟩ : ∃ r, r = isN n := ⟨_, rfl⟩
  rw [← hr] at HN HR
  go_enter Try.func29, Try.ntmps29
  go_wp2_with fail
  refine HN.out.mono ?_
  rintro e w1 ⟨rfl, rfl⟩
  go_wp2
  all_goals
    go_ret
    refine ⟨?_, HB.out⟩
    rw [HR.out]
    simp_all
    try omega

def eqN (x y : Ix) : Bool := x.name.toList == y.name.toList
theorem sameName_any (x o : Ix) (w : World) :
    Calls Try.prog 31 #[.agg #[.string x.name, .string x.field, .bool x.uniq], .agg #[.string o.name, .string o.field, .bool o.uniq]] w fun e w' => e = .returned (.bool (eqN x o)) ∧ Below w.heap.size w w' := by
  obtain ⟨n, f, u⟩ := x
  obtain ⟨n', f', u'⟩ := o
  have HB := Lib.hid (((Below.refl _ w).alloc (Nat.le_refl _) (.cells #[.string n, .string f, .bool u] 32)).alloc (by simp) (.cells #[.string n', .string f', .bool u'] 32))
  go_enter Try.func31, Try.ntmps31
  go_wp2
  go_ret
  exact ⟨rfl, HB.out⟩

/-- where an index of a name is: the first one, or -1 -/
def FndP (xs : List Ix) (n : Nat) (x : Ix) (r : Int) : Prop := (r = -1 ∧ ∀ i (h : i < xs.length), i < n → eqN x xs[i] = false) ∨ ∃ k : Nat, r = (k : Int) ∧ k < n ∧ ∃ h : k < xs.length, eqN x xs[k] = true ∧ ∀ i (hi : i < xs.length), i < k → eqN x xs[i] = false

set_option maxHeartbeats 2000000 in
set_option maxRecDepth 100000 in
theorem indexFunc_any {w : World} {a : Option Addr} {len cap : Nat} {xs : List Ix} (h : IxsIs w a xs) (hl : len ≤ xs.length) (hle : len ≤ 1000000) (x : Ix) :
    Calls Try.prog 52 #[.slice a len cap, .func (.func 31) #[.agg #[.string x.name, .string x.field, .bool x.uniq]] #[]] w fun e w' => ∃ r, e = .returned (.int .i64 r) ∧ FndP xs len x r ∧ Below w.heap.size w w' := by
  have HW := Lib.hid h
  have HL := Lib.hid hl
  clear h hl
  go_enter Try.func52, Try.ntmps52
  go_wp2_with fail
  go_loopw [8] (fun i wr => ∃ k : Nat, k ≤ len ∧ i = .int .i64 (k : Int) ∧ Hid ((∀ i (h : i < xs.length), i < k → eqN x xs[i] = false) ∧ Below w.heap.size w wr)) (fun i _ => len - (intOf i).toNat)
  case atStart => exact ⟨0, Nat.zero_le _, rfl, Lib.hid ⟨fun i _ h => by omega, Below.refl _ _⟩⟩
  case round =>
    obtain ⟨k, hk, rfl, hst⟩ := hrel
    by_cases hlt : k < len
    · have hk2 : k < xs.length := Nat.lt_of_lt_of_le hlt HL.out
      obtain ⟨b, off, rfl, hb, hin, _⟩ := HW.out.at_ k hk2
      obtain ⟨y, hy⟩ : ∃ y, y = xs[k] := ⟨_, rfl⟩
      rw [← hy] at hin
      have hin2 : IxIn wr b (off + k * 3) y := by
        obtain ⟨h0, h1, h2⟩ := hin
        exact ⟨(hst.out.2.cell (p := ⟨b, _, none⟩) hb).trans h0, (hst.out.2.cell (p := ⟨b, _, none⟩) hb).trans h1, (hst.out.2.cell (p := ⟨b, _, none⟩) hb).trans h2⟩
      obtain ⟨q0, q1, q2⟩ := hin2
      have HS := Lib.hid (sameName_any x y wr)
      have HY := Lib.hid hy
      have HLT := Lib.hid hlt
      clear hin hb hy
      go_wp2_with fail
      refine HS.out.mono ?_
      rintro e w2 ⟨rfl, hb2⟩
      have HB := Lib.hid (hst.out.2.trans (hb2.mono hst.out.2.size))
      clear q0 q1 q2 hb2 HS
      cases he : eqN x y with
      | true =>
        have HE : Hid (eqN x xs[k] = true) := Lib.hid (by rw [← HY.out]; exact he)
        clear he
        go_wp2
        go_ret
        exact ⟨_, rfl, .inr ⟨k, rfl, HLT.out, hk2, HE.out, hst.out.1⟩, HB.out⟩
      | false =>
        have HE : Hid (eqN x xs[k] = false) := Lib.hid (by rw [← HY.out]; exact he)
        clear he
        go_wp2
        go_roundw
        case rel => exact ⟨k + 1, hlt, by go_num, Lib.hid ⟨fun i hi hik => by
          by_cases h : i = k
          · subst h; exact HE.out
          · exact hst.out.1 i hi (by omega), HB.out⟩⟩
        case measure => simp [intOf]; omega
    · obtain rfl : k = len := by omega
      clear hlt
      go_wp2
      go_ret
      exact ⟨_, rfl, .inl ⟨rfl, hst.out.1⟩, hst.out.2⟩

/-- is there one of that name? -/
def hasN (xs : List Ix) (n : Nat) (x : Ix) : Bool := (xs.take n).any (eqN x)
theorem hasN_of {xs : List Ix} {n : Nat} {x : Ix} {r : Int} (h : FndP xs n x r) : decide (0 ≤ r) = hasN xs n x := by
  unfold hasN
  rcases h with ⟨rfl, h⟩ | ⟨k, rfl, hk, hx, he, _⟩
  · rw [show decide ((0 : Int) ≤ -1) = false by decide]
    symm
    rw [List.any_eq_false]
    intro y hy
    obtain ⟨i, hi, rfl⟩ := List.mem_iff_getElem.1 hy
    have h1 : i < n := by rw [List.length_take] at hi; omega
    have h2 : i < xs.length := by rw [List.length_take] at hi; omega
    rw [List.getElem_take, h i h2 h1]
    simp
  · rw [show decide ((0 : Int) ≤ (k : Int)) = true from decide_eq_true (by omega)]
    symm
    rw [List.any_eq_true]
    exact ⟨xs[k], List.mem_iff_getElem.2 ⟨k, by rw [List.length_take]; omega, by rw [List.getElem_take]⟩, he⟩

theorem contains_any {w : World} {a : Option Addr} {len cap : Nat} {xs : List Ix} (h : IxsIs w a xs) (hl : len ≤ xs.length) (hle : len ≤ 1000000) (x : Ix) :
    Calls Try.prog 30 #[.slice a len cap, .func (.func 31) #[.agg #[.string x.name, .string x.field, .bool x.uniq]] #[]] w fun e w' => e = .returned (.bool (hasN xs len x)) ∧ Below w.heap.size w w' := by
  have HC := Lib.hid (indexFunc_any (cap := cap) h hl hle x)
  go_enter Try.func30, Try.ntmps30
  go_wp2_with fail
  refine HC.out.mono ?_
  rintro e w1 ⟨r, rfl, hr, hb⟩
  have HR := Lib.hid (hasN_of hr)
  have HB := Lib.hid hb
  clear hr hb HC
  go_wp2
  go_ret
  exact ⟨by rw [← HR.out]; simp, HB.out⟩

-- COLL
def okX (xs : List Ix) (i : Nat) : Bool := match xs[i]? with
  | some x => rightI x && !hasN xs i x
  | none => true
def rightXs (xs : List Ix) (k : Nat) : Bool := (List.range k).all (okX xs)
theorem rightXs_succ (xs : List Ix) (k : Nat) : rightXs xs (k + 1) = (rightXs xs k && okX xs k) := by
  unfold rightXs
  rw [List.range_succ, List.all_append]
  simp
theorem rightXs_get {xs : List Ix} {n i : Nat} (h : rightXs xs n = true) (hi : i < n) : okX xs i = true := List.all_eq_true.1 h i (List.mem_range.2 hi)
theorem rightXs_false {xs : List Ix} {k : Nat} (h : okX xs k = false) : ∀ {n}, k < n → rightXs xs n = false := fun {n} hk => by
  cases hr : rightXs xs n with
  | false => rfl
  | true => rw [rightXs_get hr hk] at h; cases h
/-- is a collection one? -/
def rightCo (nm : ByteArray) (xs : List Ix) : Bool := isN nm && decide (xs.length ≤ 8) && rightXs xs xs.length

set_option maxHeartbeats 4000000 in
set_option maxRecDepth 100000 in
theorem cright_any {w : World} {a : Option Addr} {len cap : Nat} {xs : List Ix} (h : IxsIs w a xs) (hl : xs.length = len) (hle : len ≤ 1000000) (hlc : len ≤ cap) (nm : ByteArray) :
    Calls Try.prog 8 #[.agg #[.string nm, .slice a len cap]] w fun e w' => e = .returned (.bool (rightCo nm xs)) ∧ Below w.heap.size w w' := by
  have hb0 := (Below.refl _ w).alloc (Nat.le_refl _) (.cells #[.string nm, .slice a len cap] 25)
  have HB0 := Lib.hid hb0
  have HW := Lib.hid h
  have HL := Lib.hid hl
  have HN := Lib.hid (isName_any nm (w.alloc (.cells #[.string nm, .slice a len cap] 25)))
  have HR : Hid (rightCo nm xs = (isN nm && decide (len ≤ 8) && rightXs xs len)) := Lib.hid (by unfold rightCo; rw [hl])
  have hx1 : ∀ i, (w.alloc (.cells #[.string nm, .slice a len cap] 25)).cell? ⟨w.heap.size, i, none⟩ = (#[.string nm, .slice a len cap] : Array Value)[i]? := fun i => cell_of_row _ _ i _ _ (0, 0) (heap_alloc_new w _)
  obtain ⟨w0, hw0⟩ : ∃ w0, w0 = (w.alloc (.cells #[.string nm, .slice a len cap] 25)) := ⟨_, rfl⟩
  have hz0 : w0.heap.size = w.heap.size + 1 := by rw [hw0]; simp
  rw [← hw0] at hx1
  have HX : Hid (∀ W, Below w0.heap.size w0 W → Below w.heap.size w W ∧ W.cell? ⟨w.heap.size, 0, none⟩ = some (.string nm) ∧ W.cell? ⟨w.heap.size, 1, none⟩ = some (.slice a len cap)) := Lib.hid fun W hb => by
    rw [← hw0] at hb0
    exact ⟨hb0.trans (hb.mono (by omega)), (hb.cell (p := ⟨w.heap.size, 0, none⟩) (by show w.heap.size < _; omega)).trans (hx1 0), (hb.cell (p := ⟨w.heap.size, 1, none⟩) (by show w.heap.size < _; omega)).trans (hx1 1)⟩
  have HZ0 := Lib.hid hz0
  clear h hl hb0 hx1 hz0
  cases hn : isN nm with
  | false =>
    rw [hn] at HN HR
    clear hn HX
    go_enter Try.func8, Try.ntmps8
    go_wp2_with fail
    refine HN.out.mono ?_
    rintro e w1 ⟨rfl, rfl⟩
    clear hw0
    go_wp2
    go_ret
    exact ⟨by rw [HR.out]; rfl, HB0.out⟩
  | true =>
    rw [hn] at HN HR
    clear hn
    by_cases h8 : len ≤ 8
    · have h8I : (len : Int) ≤ 8 := by omega
      have HR2 : Hid (rightCo nm xs = rightXs xs len) := Lib.hid (by rw [HR.out]; simp [h8])
      clear HR
      go_enter Try.func8, Try.ntmps8
      go_wp2_with fail
      refine HN.out.mono ?_
      rintro e w1 ⟨rfl, rfl⟩
      rw [← hw0]
      obtain ⟨_, y0, y1⟩ := HX.out w0 (Below.refl _ _)
      clear hw0 HN HB0
      go_wp2_with fail
      clear y0 y1
      go_loopw [18] (fun i wr => ∃ k : Nat, k ≤ len ∧ i = .int .i64 (k : Int) ∧ Hid (rightXs xs k = true ∧ Below w0.heap.size w0 wr)) (fun i _ => len - (intOf i).toNat)
      case atStart => exact ⟨0, Nat.zero_le _, rfl, Lib.hid ⟨rfl, Below.refl _ _⟩⟩
      case round =>
        obtain ⟨k, hk, rfl, hst⟩ := hrel
        by_cases hlt : k < len
        · have hk2 : k < xs.length := by rw [HL.out]; exact hlt
          obtain ⟨hbw, y0, y1⟩ := HX.out wr hst.out.2
          obtain ⟨b, off, rfl, hb, hin, _⟩ := HW.out.at_ k hk2
          obtain ⟨x, hx⟩ : ∃ x, x = xs[k] := ⟨_, rfl⟩
          rw [← hx] at hin
          have hin2 : IxIn wr b (off + k * 3) x := by
            obtain ⟨h0, h1, h2⟩ := hin
            exact ⟨(hbw.cell (p := ⟨b, _, none⟩) hb).trans h0, (hbw.cell (p := ⟨b, _, none⟩) hb).trans h1, (hbw.cell (p := ⟨b, _, none⟩) hb).trans h2⟩
          obtain ⟨q0, q1, q2⟩ := hin2
          have hok : okX xs k = (rightI x && !hasN xs k x) := by
            unfold okX
            rw [List.getElem?_eq_getElem hk2, ← hx]
          obtain ⟨W1, hW1⟩ : ∃ W1, W1 = (wr.alloc (.cells #[.string x.name, .string x.field, .bool x.uniq] 32)) := ⟨_, rfl⟩
          have hzW : W1.heap.size = wr.heap.size + 1 := by rw [hW1]; simp
          have hb1 : Below w0.heap.size w0 W1 := by rw [hW1]; exact hst.out.2.alloc hst.out.2.size _
          have hbx : ∀ i, W1.cell? ⟨wr.heap.size, i, none⟩ = (#[.string x.name, .string x.field, .bool x.uniq] : Array Value)[i]? := fun i => by rw [hW1]; exact cell_of_row _ _ i _ _ (0, 0) (heap_alloc_new wr _)
          have HK : Hid (∀ W, Below W1.heap.size W1 W → (W.cell? ⟨w.heap.size, 0, none⟩ = some (.string nm) ∧ W.cell? ⟨w.heap.size, 1, none⟩ = some (.slice (some ⟨b, off, none⟩) len cap)) ∧ W.cell? ⟨wr.heap.size, 0, none⟩ = some (.string x.name) ∧ W.cell? ⟨wr.heap.size, 1, none⟩ = some (.string x.field) ∧ W.cell? ⟨wr.heap.size, 2, none⟩ = some (.bool x.uniq)) := Lib.hid fun W hB => by
            obtain ⟨_, a0, a1⟩ := HX.out W (hb1.trans (hB.mono hb1.size))
            have h0 : ∀ i : Nat, W.cell? ⟨wr.heap.size, i, none⟩ = (#[.string x.name, .string x.field, .bool x.uniq] : Array Value)[i]? := fun i => (hB.cell (p := ⟨wr.heap.size, i, none⟩) (by show wr.heap.size < _; omega)).trans (hbx i)
            exact ⟨⟨a0, a1⟩, h0 0, h0 1, h0 2⟩
          have HCALL : Hid (Calls Try.prog 29 #[.agg #[.string x.name, .string x.field, .bool x.uniq]] W1.drew fun e w' => e = .returned (.bool (rightI x)) ∧ Below W1.heap.size W1.drew w') := Lib.hid (iright_any x W1.drew)
          have HCT : Hid (∀ W, Below W1.heap.size W1 W → Calls Try.prog 30 #[.slice (some ⟨b, off, none⟩) k cap, .func (.func 31) #[.agg #[.string x.name, .string x.field, .bool x.uniq]] #[]] W fun e w' => e = .returned (.bool (hasN xs k x)) ∧ Below W.heap.size W w') := Lib.hid fun W hB =>
            contains_any (cap := cap) (HW.out.below ((HX.out W (hb1.trans (hB.mono hb1.size))).1)) (by omega) (by omega) x
          have HBW : Hid (∀ W, Below W1.heap.size W1 W → Below w0.heap.size w0 W) := Lib.hid fun W hB => hb1.trans (hB.mono hb1.size)
          have HB1 : Hid (Below W1.heap.size W1 W1.drew) := Lib.hid (Below.refl _ W1).drew
          have hS1 := HK.out _ HB1.out
          have HLT := Lib.hid hlt
          have HOK := Lib.hid hok
          have HKC : Hid ((k : Int) ≤ (cap : Int)) := Lib.hid (by omega)
          clear hin hb hok hx hb1 hbx hzW
          cases hr : rightI x with
          | false =>
            rw [hr] at HCALL HOK
            have HF : Hid (rightXs xs len = false) := Lib.hid (rightXs_false (by rw [HOK.out]; rfl) hlt)
            clear hr hst
            go_wp2_with fail
            rw [← hW1]
            clear hW1 y0 y1 q0 q1 q2
            refine wp_region_held_drew (S := fun w' => (w'.cell? ⟨w.heap.size, 0, none⟩ = some (.string nm) ∧ w'.cell? ⟨w.heap.size, 1, none⟩ = some (.slice (some ⟨b, off, none⟩) len cap)) ∧ w'.cell? ⟨wr.heap.size, 0, none⟩ = some (.string x.name) ∧ w'.cell? ⟨wr.heap.size, 1, none⟩ = some (.string x.field) ∧ w'.cell? ⟨wr.heap.size, 2, none⟩ = some (.bool x.uniq)) (by kernel_rfl) (by exact hS1) (fun hHeld => ?_)
            clear hS1
            refine wpAnyH_take (i := 0) (oi := _) (v := ?_) rfl (by kernel_rfl) (by kernel_rfl) (by kernel_rfl) (fun _ _ _ h => h) (Or.inl ⟨by rfl, ?_⟩) (by assumption) ?_
            rotate_left
            · (intro w' hSw; (try dsimp only at hSw); go_simp; all_goals with_reducible rfl)
            try simp only [Act.put, List.getElem_toArray, List.getElem_cons_zero, List.getElem_cons_succ, List.setIfInBounds_toArray, List.set_cons_zero, List.set_cons_succ]
            refine wpAnyH_ready (rs := [1]) (by kernel_rfl) (by simp) ?_
            refine AllReadyH.cons rfl (fun K hK => ?_) AllReadyH.nil
            go_simp
            refine HCALL.out.mono ?_
            rintro e w4 ⟨rfl, hb4⟩
            have HB4 := Lib.hid (HB1.out.trans (hb4.mono HB1.out.size))
            have hS4 := HK.out _ HB4.out
            clear hb4
            refine hK.out _ _ (by exact hS4) (fun hHeld => ?_)
            clear hK K
            try simp only [Act.put, List.getElem_toArray, List.getElem_cons_zero, List.getElem_cons_succ, List.setIfInBounds_toArray, List.set_cons_zero, List.set_cons_succ]
            clear hS4
            refine wpAnyH_take (i := 2) (oi := _) (v := ?_) rfl (by kernel_rfl) (by kernel_rfl) (by kernel_rfl) (fun _ _ _ h => h) (Or.inl ⟨by rfl, ?_⟩) (by assumption) ?_
            rotate_left
            · (intro w' hSw; (try dsimp only at hSw); go_simp; all_goals with_reducible rfl)
            try simp only [Act.put, List.getElem_toArray, List.getElem_cons_zero, List.getElem_cons_succ, List.setIfInBounds_toArray, List.set_cons_zero, List.set_cons_succ]
            refine wpAnyH_take (i := 3) (oi := _) (v := ?_) rfl (by kernel_rfl) (by kernel_rfl) (by kernel_rfl) (fun _ _ _ h => h) (Or.inl ⟨by rfl, ?_⟩) (by assumption) ?_
            rotate_left
            · (intro w' hSw; (try dsimp only at hSw); go_simp; all_goals with_reducible rfl)
            try simp only [Act.put, List.getElem_toArray, List.getElem_cons_zero, List.getElem_cons_succ, List.setIfInBounds_toArray, List.set_cons_zero, List.set_cons_succ]
            refine wpAnyH_take (i := 4) (oi := _) (v := undef) rfl (by kernel_rfl) (by kernel_rfl) (by kernel_rfl) (fun _ _ _ h => h) (Or.inr ⟨by rfl, rfl⟩) (by assumption) ?_
            try simp only [Act.put, List.getElem_toArray, List.getElem_cons_zero, List.getElem_cons_succ, List.setIfInBounds_toArray, List.set_cons_zero, List.set_cons_succ]
            refine wpAnyH_take (i := 5) (oi := _) (v := undef) rfl (by kernel_rfl) (by kernel_rfl) (by kernel_rfl) (fun _ _ _ h => h) (Or.inr ⟨by rfl, rfl⟩) (by assumption) ?_
            try simp only [Act.put, List.getElem_toArray, List.getElem_cons_zero, List.getElem_cons_succ, List.setIfInBounds_toArray, List.set_cons_zero, List.set_cons_succ]
            refine wpAnyH_take (i := 6) (oi := _) (v := undef) rfl (by kernel_rfl) (by kernel_rfl) (by kernel_rfl) (fun _ _ _ h => h) (Or.inr ⟨by rfl, rfl⟩) (by assumption) ?_
            try simp only [Act.put, List.getElem_toArray, List.getElem_cons_zero, List.getElem_cons_succ, List.setIfInBounds_toArray, List.set_cons_zero, List.set_cons_succ]
            refine wpAnyH_take (i := 7) (oi := _) (v := undef) rfl (by kernel_rfl) (by kernel_rfl) (by kernel_rfl) (fun _ _ _ h => h) (Or.inr ⟨by rfl, rfl⟩) (by assumption) ?_
            try simp only [Act.put, List.getElem_toArray, List.getElem_cons_zero, List.getElem_cons_succ, List.setIfInBounds_toArray, List.set_cons_zero, List.set_cons_succ]
            refine wpAnyH_take (i := 8) (oi := _) (v := undef) rfl (by kernel_rfl) (by kernel_rfl) (by kernel_rfl) (fun _ _ _ h => h) (Or.inr ⟨by rfl, rfl⟩) (by assumption) ?_
            try simp only [Act.put, List.getElem_toArray, List.getElem_cons_zero, List.getElem_cons_succ, List.setIfInBounds_toArray, List.set_cons_zero, List.set_cons_succ]
            refine wpAnyH_take (i := 9) (oi := _) (v := undef) rfl (by kernel_rfl) (by kernel_rfl) (by kernel_rfl) (fun _ _ _ h => h) (Or.inr ⟨by rfl, rfl⟩) (by assumption) ?_
            try simp only [Act.put, List.getElem_toArray, List.getElem_cons_zero, List.getElem_cons_succ, List.setIfInBounds_toArray, List.set_cons_zero, List.set_cons_succ]
            refine wpAnyH_take (i := 10) (oi := _) (v := undef) rfl (by kernel_rfl) (by kernel_rfl) (by kernel_rfl) (fun _ _ _ h => h) (Or.inr ⟨by rfl, rfl⟩) (by assumption) ?_
            try simp only [Act.put, List.getElem_toArray, List.getElem_cons_zero, List.getElem_cons_succ, List.setIfInBounds_toArray, List.set_cons_zero, List.set_cons_succ]
            refine wpAnyH_take (i := 11) (oi := _) (v := ?_) rfl (by kernel_rfl) (by kernel_rfl) (by kernel_rfl) (fun _ _ _ h => h) (Or.inl ⟨by rfl, ?_⟩) (by assumption) ?_
            rotate_left
            · (intro w' hSw; (try dsimp only at hSw); go_simp; all_goals with_reducible rfl)
            try simp only [Act.put, List.getElem_toArray, List.getElem_cons_zero, List.getElem_cons_succ, List.setIfInBounds_toArray, List.set_cons_zero, List.set_cons_succ]
            refine wpAnyH_done (by kernel_rfl) ?_ _
            go_wp2
            go_ret
            exact ⟨by rw [HR2.out, HF.out]; rfl, (HX.out _ (HBW.out _ HB4.out)).1⟩
          | true =>
            rw [hr] at HCALL HOK
            clear hr
            cases hh : hasN xs k x with
            | true =>
              rw [hh] at HCT HOK
              have HF : Hid (rightXs xs len = false) := Lib.hid (rightXs_false (by rw [HOK.out]; rfl) hlt)
              have hkc := HKC.out
              clear hh hst
              go_wp2_with fail
              rw [← hW1]
              clear hW1 y0 y1 q0 q1 q2
              refine wp_region_held_drew (S := fun w' => (w'.cell? ⟨w.heap.size, 0, none⟩ = some (.string nm) ∧ w'.cell? ⟨w.heap.size, 1, none⟩ = some (.slice (some ⟨b, off, none⟩) len cap)) ∧ w'.cell? ⟨wr.heap.size, 0, none⟩ = some (.string x.name) ∧ w'.cell? ⟨wr.heap.size, 1, none⟩ = some (.string x.field) ∧ w'.cell? ⟨wr.heap.size, 2, none⟩ = some (.bool x.uniq)) (by kernel_rfl) (by exact hS1) (fun hHeld => ?_)
              clear hS1
              refine wpAnyH_take (i := 0) (oi := _) (v := ?_) rfl (by kernel_rfl) (by kernel_rfl) (by kernel_rfl) (fun _ _ _ h => h) (Or.inl ⟨by rfl, ?_⟩) (by assumption) ?_
              rotate_left
              · (intro w' hSw; (try dsimp only at hSw); go_simp; all_goals with_reducible rfl)
              try simp only [Act.put, List.getElem_toArray, List.getElem_cons_zero, List.getElem_cons_succ, List.setIfInBounds_toArray, List.set_cons_zero, List.set_cons_succ]
              refine wpAnyH_ready (rs := [1]) (by kernel_rfl) (by simp) ?_
              refine AllReadyH.cons rfl (fun K hK => ?_) AllReadyH.nil
              go_simp
              refine HCALL.out.mono ?_
              rintro e w4 ⟨rfl, hb4⟩
              have HB4 := Lib.hid (HB1.out.trans (hb4.mono HB1.out.size))
              have hS4 := HK.out _ HB4.out
              clear hb4
              refine hK.out _ _ (by exact hS4) (fun hHeld => ?_)
              clear hK K
              try simp only [Act.put, List.getElem_toArray, List.getElem_cons_zero, List.getElem_cons_succ, List.setIfInBounds_toArray, List.set_cons_zero, List.set_cons_succ]
              clear hS4
              refine wpAnyH_take (i := 2) (oi := _) (v := ?_) rfl (by kernel_rfl) (by kernel_rfl) (by kernel_rfl) (fun _ _ _ h => h) (Or.inl ⟨by rfl, ?_⟩) (by assumption) ?_
              rotate_left
              · (intro w' hSw; (try dsimp only at hSw); go_simp; all_goals with_reducible rfl)
              try simp only [Act.put, List.getElem_toArray, List.getElem_cons_zero, List.getElem_cons_succ, List.setIfInBounds_toArray, List.set_cons_zero, List.set_cons_succ]
              refine wpAnyH_take (i := 3) (oi := _) (v := ?_) rfl (by kernel_rfl) (by kernel_rfl) (by kernel_rfl) (fun _ _ _ h => h) (Or.inl ⟨by rfl, ?_⟩) (by assumption) ?_
              rotate_left
              · (intro w' hSw; (try dsimp only at hSw); go_simp; all_goals with_reducible rfl)
              try simp only [Act.put, List.getElem_toArray, List.getElem_cons_zero, List.getElem_cons_succ, List.setIfInBounds_toArray, List.set_cons_zero, List.set_cons_succ]
              refine wpAnyH_take (i := 4) (oi := _) (v := ?_) rfl (by kernel_rfl) (by kernel_rfl) (by kernel_rfl) (fun _ _ _ h => h) (Or.inl ⟨by rfl, ?_⟩) (by assumption) ?_
              rotate_left
              · (intro w' hSw; (try dsimp only at hSw); go_simp; all_goals with_reducible rfl)
              try simp only [Act.put, List.getElem_toArray, List.getElem_cons_zero, List.getElem_cons_succ, List.setIfInBounds_toArray, List.set_cons_zero, List.set_cons_succ]
              refine wpAnyH_take (i := 5) (oi := _) (v := ?_) rfl (by kernel_rfl) (by kernel_rfl) (by kernel_rfl) (fun _ _ _ h => h) (Or.inl ⟨by rfl, ?_⟩) (by assumption) ?_
              rotate_left
              · (intro w' hSw; (try dsimp only at hSw); go_simp; all_goals with_reducible rfl)
              try simp only [Act.put, List.getElem_toArray, List.getElem_cons_zero, List.getElem_cons_succ, List.setIfInBounds_toArray, List.set_cons_zero, List.set_cons_succ]
              refine wpAnyH_take (i := 6) (oi := _) (v := ?_) rfl (by kernel_rfl) (by kernel_rfl) (by kernel_rfl) (fun _ _ _ h => h) (Or.inl ⟨by rfl, ?_⟩) (by assumption) ?_
              rotate_left
              · (intro w' hSw; (try dsimp only at hSw); go_simp; all_goals with_reducible rfl)
              try simp only [Act.put, List.getElem_toArray, List.getElem_cons_zero, List.getElem_cons_succ, List.setIfInBounds_toArray, List.set_cons_zero, List.set_cons_succ]
              refine wpAnyH_take (i := 7) (oi := _) (v := ?_) rfl (by kernel_rfl) (by kernel_rfl) (by kernel_rfl) (fun _ _ _ h => h) (Or.inl ⟨by rfl, ?_⟩) (by assumption) ?_
              rotate_left
              · (intro w' hSw; (try dsimp only at hSw); go_simp; all_goals with_reducible rfl)
              try simp only [Act.put, List.getElem_toArray, List.getElem_cons_zero, List.getElem_cons_succ, List.setIfInBounds_toArray, List.set_cons_zero, List.set_cons_succ]
              refine wpAnyH_take (i := 8) (oi := _) (v := ?_) rfl (by kernel_rfl) (by kernel_rfl) (by kernel_rfl) (fun _ _ _ h => h) (Or.inl ⟨by rfl, ?_⟩) (by assumption) ?_
              rotate_left
              · (intro w' hSw; (try dsimp only at hSw); go_simp; all_goals with_reducible rfl)
              try simp only [Act.put, List.getElem_toArray, List.getElem_cons_zero, List.getElem_cons_succ, List.setIfInBounds_toArray, List.set_cons_zero, List.set_cons_succ]
              refine wpAnyH_take (i := 9) (oi := _) (v := ?_) rfl (by kernel_rfl) (by kernel_rfl) (by kernel_rfl) (fun _ _ _ h => h) (Or.inl ⟨by rfl, ?_⟩) (by assumption) ?_
              rotate_left
              · (intro w' hSw; (try dsimp only at hSw); go_simp; all_goals with_reducible rfl)
              try simp only [Act.put, List.getElem_toArray, List.getElem_cons_zero, List.getElem_cons_succ, List.setIfInBounds_toArray, List.set_cons_zero, List.set_cons_succ]
              refine wpAnyH_ready (rs := [10]) (by kernel_rfl) (by simp) ?_
              refine AllReadyH.cons rfl (fun K hK => ?_) AllReadyH.nil
              go_simp
              refine (HCT.out _ HB4.out).mono ?_
              rintro e w5 ⟨rfl, hb5⟩
              have HB5 := Lib.hid (HB4.out.trans (hb5.mono HB4.out.size))
              have hS5 := HK.out _ HB5.out
              clear hb5
              refine hK.out _ _ (by exact hS5) (fun hHeld => ?_)
              clear hK K
              try simp only [Act.put, List.getElem_toArray, List.getElem_cons_zero, List.getElem_cons_succ, List.setIfInBounds_toArray, List.set_cons_zero, List.set_cons_succ]
              clear hS5
              refine wpAnyH_take (i := 11) (oi := _) (v := ?_) rfl (by kernel_rfl) (by kernel_rfl) (by kernel_rfl) (fun _ _ _ h => h) (Or.inl ⟨by rfl, ?_⟩) (by assumption) ?_
              rotate_left
              · (intro w' hSw; (try dsimp only at hSw); go_simp; all_goals with_reducible rfl)
              try simp only [Act.put, List.getElem_toArray, List.getElem_cons_zero, List.getElem_cons_succ, List.setIfInBounds_toArray, List.set_cons_zero, List.set_cons_succ]
              refine wpAnyH_done (by kernel_rfl) ?_ _
              go_wp2
              go_ret
              exact ⟨by rw [HR2.out, HF.out]; rfl, (HX.out _ (HBW.out _ HB5.out)).1⟩
            | false =>
              rw [hh] at HCT HOK
              have HS : Hid (rightXs xs (k + 1) = true) := Lib.hid (by rw [rightXs_succ, hst.out.1, HOK.out]; rfl)
              have hkc := HKC.out
              clear hh hst
              go_wp2_with fail
              rw [← hW1]
              clear hW1 y0 y1 q0 q1 q2
              refine wp_region_held_drew (S := fun w' => (w'.cell? ⟨w.heap.size, 0, none⟩ = some (.string nm) ∧ w'.cell? ⟨w.heap.size, 1, none⟩ = some (.slice (some ⟨b, off, none⟩) len cap)) ∧ w'.cell? ⟨wr.heap.size, 0, none⟩ = some (.string x.name) ∧ w'.cell? ⟨wr.heap.size, 1, none⟩ = some (.string x.field) ∧ w'.cell? ⟨wr.heap.size, 2, none⟩ = some (.bool x.uniq)) (by kernel_rfl) (by exact hS1) (fun hHeld => ?_)
              clear hS1
              refine wpAnyH_take (i := 0) (oi := _) (v := ?_) rfl (by kernel_rfl) (by kernel_rfl) (by kernel_rfl) (fun _ _ _ h => h) (Or.inl ⟨by rfl, ?_⟩) (by assumption) ?_
              rotate_left
              · (intro w' hSw; (try dsimp only at hSw); go_simp; all_goals with_reducible rfl)
              try simp only [Act.put, List.getElem_toArray, List.getElem_cons_zero, List.getElem_cons_succ, List.setIfInBounds_toArray, List.set_cons_zero, List.set_cons_succ]
              refine wpAnyH_ready (rs := [1]) (by kernel_rfl) (by simp) ?_
              refine AllReadyH.cons rfl (fun K hK => ?_) AllReadyH.nil
              go_simp
              refine HCALL.out.mono ?_
              rintro e w4 ⟨rfl, hb4⟩
              have HB4 := Lib.hid (HB1.out.trans (hb4.mono HB1.out.size))
              have hS4 := HK.out _ HB4.out
              clear hb4
              refine hK.out _ _ (by exact hS4) (fun hHeld => ?_)
              clear hK K
              try simp only [Act.put, List.getElem_toArray, List.getElem_cons_zero, List.getElem_cons_succ, List.setIfInBounds_toArray, List.set_cons_zero, List.set_cons_succ]
              clear hS4
              refine wpAnyH_take (i := 2) (oi := _) (v := ?_) rfl (by kernel_rfl) (by kernel_rfl) (by kernel_rfl) (fun _ _ _ h => h) (Or.inl ⟨by rfl, ?_⟩) (by assumption) ?_
              rotate_left
              · (intro w' hSw; (try dsimp only at hSw); go_simp; all_goals with_reducible rfl)
              try simp only [Act.put, List.getElem_toArray, List.getElem_cons_zero, List.getElem_cons_succ, List.setIfInBounds_toArray, List.set_cons_zero, List.set_cons_succ]
              refine wpAnyH_take (i := 3) (oi := _) (v := ?_) rfl (by kernel_rfl) (by kernel_rfl) (by kernel_rfl) (fun _ _ _ h => h) (Or.inl ⟨by rfl, ?_⟩) (by assumption) ?_
              rotate_left
              · (intro w' hSw; (try dsimp only at hSw); go_simp; all_goals with_reducible rfl)
              try simp only [Act.put, List.getElem_toArray, List.getElem_cons_zero, List.getElem_cons_succ, List.setIfInBounds_toArray, List.set_cons_zero, List.set_cons_succ]
              refine wpAnyH_take (i := 4) (oi := _) (v := ?_) rfl (by kernel_rfl) (by kernel_rfl) (by kernel_rfl) (fun _ _ _ h => h) (Or.inl ⟨by rfl, ?_⟩) (by assumption) ?_
              rotate_left
              · (intro w' hSw; (try dsimp only at hSw); go_simp; all_goals with_reducible rfl)
              try simp only [Act.put, List.getElem_toArray, List.getElem_cons_zero, List.getElem_cons_succ, List.setIfInBounds_toArray, List.set_cons_zero, List.set_cons_succ]
              refine wpAnyH_take (i := 5) (oi := _) (v := ?_) rfl (by kernel_rfl) (by kernel_rfl) (by kernel_rfl) (fun _ _ _ h => h) (Or.inl ⟨by rfl, ?_⟩) (by assumption) ?_
              rotate_left
              · (intro w' hSw; (try dsimp only at hSw); go_simp; all_goals with_reducible rfl)
              try simp only [Act.put, List.getElem_toArray, List.getElem_cons_zero, List.getElem_cons_succ, List.setIfInBounds_toArray, List.set_cons_zero, List.set_cons_succ]
              refine wpAnyH_take (i := 6) (oi := _) (v := ?_) rfl (by kernel_rfl) (by kernel_rfl) (by kernel_rfl) (fun _ _ _ h => h) (Or.inl ⟨by rfl, ?_⟩) (by assumption) ?_
              rotate_left
              · (intro w' hSw; (try dsimp only at hSw); go_simp; all_goals with_reducible rfl)
              try simp only [Act.put, List.getElem_toArray, List.getElem_cons_zero, List.getElem_cons_succ, List.setIfInBounds_toArray, List.set_cons_zero, List.set_cons_succ]
              refine wpAnyH_take (i := 7) (oi := _) (v := ?_) rfl (by kernel_rfl) (by kernel_rfl) (by kernel_rfl) (fun _ _ _ h => h) (Or.inl ⟨by rfl, ?_⟩) (by assumption) ?_
              rotate_left
              · (intro w' hSw; (try dsimp only at hSw); go_simp; all_goals with_reducible rfl)
              try simp only [Act.put, List.getElem_toArray, List.getElem_cons_zero, List.getElem_cons_succ, List.setIfInBounds_toArray, List.set_cons_zero, List.set_cons_succ]
              refine wpAnyH_take (i := 8) (oi := _) (v := ?_) rfl (by kernel_rfl) (by kernel_rfl) (by kernel_rfl) (fun _ _ _ h => h) (Or.inl ⟨by rfl, ?_⟩) (by assumption) ?_
              rotate_left
              · (intro w' hSw; (try dsimp only at hSw); go_simp; all_goals with_reducible rfl)
              try simp only [Act.put, List.getElem_toArray, List.getElem_cons_zero, List.getElem_cons_succ, List.setIfInBounds_toArray, List.set_cons_zero, List.set_cons_succ]
              refine wpAnyH_take (i := 9) (oi := _) (v := ?_) rfl (by kernel_rfl) (by kernel_rfl) (by kernel_rfl) (fun _ _ _ h => h) (Or.inl ⟨by rfl, ?_⟩) (by assumption) ?_
              rotate_left
              · (intro w' hSw; (try dsimp only at hSw); go_simp; all_goals with_reducible rfl)
              try simp only [Act.put, List.getElem_toArray, List.getElem_cons_zero, List.getElem_cons_succ, List.setIfInBounds_toArray, List.set_cons_zero, List.set_cons_succ]
              refine wpAnyH_ready (rs := [10]) (by kernel_rfl) (by simp) ?_
              refine AllReadyH.cons rfl (fun K hK => ?_) AllReadyH.nil
              go_simp
              refine (HCT.out _ HB4.out).mono ?_
              rintro e w5 ⟨rfl, hb5⟩
              have HB5 := Lib.hid (HB4.out.trans (hb5.mono HB4.out.size))
              have hS5 := HK.out _ HB5.out
              clear hb5
              refine hK.out _ _ (by exact hS5) (fun hHeld => ?_)
              clear hK K
              try simp only [Act.put, List.getElem_toArray, List.getElem_cons_zero, List.getElem_cons_succ, List.setIfInBounds_toArray, List.set_cons_zero, List.set_cons_succ]
              clear hS5
              refine wpAnyH_take (i := 11) (oi := _) (v := ?_) rfl (by kernel_rfl) (by kernel_rfl) (by kernel_rfl) (fun _ _ _ h => h) (Or.inl ⟨by rfl, ?_⟩) (by assumption) ?_
              rotate_left
              · (intro w' hSw; (try dsimp only at hSw); go_simp; all_goals with_reducible rfl)
              try simp only [Act.put, List.getElem_toArray, List.getElem_cons_zero, List.getElem_cons_succ, List.setIfInBounds_toArray, List.set_cons_zero, List.set_cons_succ]
              refine wpAnyH_done (by kernel_rfl) ?_ _
              go_wp2
              go_roundw
              case rel => exact ⟨k + 1, HLT.out, by go_num, Lib.hid ⟨HS.out, HBW.out _ HB5.out⟩⟩
              case measure => have := HLT.out; simp [intOf]; omega
        · obtain rfl : k = len := by omega
          obtain ⟨hbw, y0, y1⟩ := HX.out wr hst.out.2
          have HB := Lib.hid hbw
          clear hlt hbw
          go_wp2
          go_ret
          exact ⟨by rw [HR2.out, hst.out.1]; rfl, HB.out⟩
    · have h8I : ¬ (len : Int) ≤ 8 := by omega
      go_enter Try.func8, Try.ntmps8
      go_wp2_with fail
      refine HN.out.mono ?_
      rintro e w1 ⟨rfl, rfl⟩
      clear hw0 HX
      go_wp2
      go_ret
      exact ⟨by rw [HR.out]; simp [h8], HB0.out⟩

end Go.Proofs.Ytidbiefenjnodaa
