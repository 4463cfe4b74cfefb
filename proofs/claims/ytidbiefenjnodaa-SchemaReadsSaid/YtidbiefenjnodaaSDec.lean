/-
  schema: whatever bytes as a collection: Decode's contract.
-/
import Derived.Test.YtidbiefenjnodaaSRight
import Derived.Test.YtidbiefenjnodaaSEnc
import Derived.Test.YtidbiefenjnodaaSt
import Derived.Test.YtidbiefenjnodaaTBox
import Derived.Deep.CutRange
import Derived.Deep.RegionWith
namespace Go.Proofs.Ytidbiefenjnodaa
open Go.RowKit rdS

set_option linter.unusedVariables false
set_option linter.unusedSimpArgs false

/-- so many indexes, and the state behind them -/
def ixS : Nat → St → List Ix × St
  | 0, st => ([], st)
  | j + 1, st => ((ixS j st).1 ++ [⟨⟨(textS (ixS j st).2 40).1.toArray⟩, ⟨(textS (textS (ixS j st).2 40).2 40).1.toArray⟩, (flagS (textS (textS (ixS j st).2 40).2 40).2).1⟩], (flagS (textS (textS (ixS j st).2 40).2 40).2).2)
/-- what bytes are as a collection of a name -/
def decCo (nm : ByteArray) (l : List UInt8) : Option (List Ix) :=
  if endS (ixS (numS (some l) 8).1 (numS (some l) 8).2).2 = 0 ∧ rightCo nm (ixS (numS (some l) 8).1 (numS (some l) 8).2).1 = true then some (ixS (numS (some l) 8).1 (numS (some l) 8).2).1 else none

theorem ixS_count (st : St) : ∀ n, (ixS n st).1.length = n
  | 0 => rfl
  | n + 1 => by
    show ((ixS n st).1 ++ _).length = n + 1
    rw [List.length_append, ixS_count st n]
    rfl
theorem ixS_len {st : St} (h : stLen st) : ∀ n, stLen (ixS n st).2
  | 0 => h
  | n + 1 => flagS_len (textS_len (textS_len (ixS_len h n)))
theorem ixS_back {st : St} : ∀ (n : Nat) {xs : List Ix} {r : List UInt8}, ixS n st = (xs, some r) → st = some (xs.flatMap octI ++ r)
  | 0, xs, r, h => by
    simp only [ixS, Prod.mk.injEq] at h
    obtain ⟨rfl, rfl⟩ := h
    rfl
  | n + 1, xs, r, h => by
    obtain ⟨p, hp⟩ : ∃ p, p = ixS n st := ⟨_, rfl⟩
    obtain ⟨p1, p2⟩ := p
    cases ha : textS p2 40 with
    | mk a sa =>
      cases hb : textS sa 40 with
      | mk b sb =>
        cases hf : flagS sb with
        | mk f sf =>
          have e : ixS (n + 1) st = (p1 ++ [⟨⟨a.toArray⟩, ⟨b.toArray⟩, f⟩], sf) := by
            rw [ixS, ← hp]
            simp only
            rw [ha]
            simp only
            rw [hb]
            simp only
            rw [hf]
          rw [e] at h
          simp only [Prod.mk.injEq] at h
          obtain ⟨rfl, rfl⟩ := h
          have h1 := flagS_back hf
          subst h1
          have h2 := (textS_back hb).1
          subst h2
          have h3 := (textS_back ha).1
          subst h3
          have ih := ixS_back n hp.symm
          rw [ih, List.flatMap_append]
          simp [octI, List.append_assoc]

/-- what is told of bytes is in them, just so -/
theorem decCo_back {nm : ByteArray} {l : List UInt8} {xs : List Ix} (h : decCo nm l = some xs) : l = octIs xs ∧ rightCo nm xs = true := by
  unfold decCo at h
  cases hn : numS (some l) 8 with
  | mk n s =>
    rw [hn] at h
    simp only at h
    split at h
    · rename_i hc
      simp only [Option.some.injEq] at h
      obtain ⟨h1, h2⟩ := hc
      rw [h] at h2
      refine ⟨?_, h2⟩
      cases hs : ixS n s with
      | mk ys z =>
        rw [hs] at h h1
        simp only at h h1
        subst h
        match z, hs, h1 with
        | some [], hs, _ =>
          have hb := ixS_back n hs
          rw [List.append_nil] at hb
          have hcount := ixS_count s n
          rw [hs] at hcount
          rw [hb] at hn
          have hb2 := (numS_back hn).1
          simp only [Option.some.injEq] at hb2
          unfold octIs
          rw [hb2, ← hcount]
        | none, _, h1 => cases h1
        | some (c :: r), _, h1 => cases h1
    · cases h

theorem isN_size {s : ByteArray} (h : isN s = true) : s.size ≤ 40 := by
  unfold isN at h
  simp only [Bool.and_eq_true, decide_eq_true_eq] at h
  exact h.2
theorem rightCo_of {nm : ByteArray} {xs : List Ix} (h : rightCo nm xs = true) : nm.size ≤ 40 ∧ xs.length ≤ 8 ∧ ∀ x ∈ xs, x.name.size ≤ 40 ∧ x.field.size ≤ 40 := by
  unfold rightCo at h
  simp only [Bool.and_eq_true, decide_eq_true_eq] at h
  obtain ⟨⟨h1, h2⟩, h3⟩ := h
  refine ⟨isN_size h1, h2, fun x hx => ?_⟩
  obtain ⟨i, hi, rfl⟩ := List.getElem_of_mem hx
  have := rightXs_get h3 hi
  unfold okX at this
  rw [List.getElem?_eq_getElem hi] at this
  simp only [Bool.and_eq_true] at this
  have h4 := this.1
  unfold rightI at h4
  simp only [Bool.and_eq_true, decide_eq_true_eq] at h4
  exact ⟨isN_size h4.1, h4.2⟩

theorem flat3 : ∀ (xs : List Ix) (i : Nat) (h : i < xs.length) (q : Nat), q < 3 → (xs.flatMap ixcells)[i * 3 + q]? = (ixcells xs[i])[q]?
  | x :: xs, 0, h, q, hq => by
    rw [List.flatMap_cons, List.getElem?_append_left (by show 0 * 3 + q < 3; omega), Nat.zero_mul, Nat.zero_add]
    rfl
  | x :: xs, i + 1, h, q, hq => by
    have hl : (ixcells x).length = 3 := rfl
    rw [List.flatMap_cons, List.getElem?_append_right (by rw [hl]; omega), hl, show (i + 1) * 3 + q - 3 = i * 3 + q by omega, flat3 xs i (by simpa using h) q hq]
    rfl
theorem flat3_len : ∀ (xs : List Ix), (xs.flatMap ixcells).length = xs.length * 3
  | [] => rfl
  | x :: xs => by
    have hl : (ixcells x).length = 3 := rfl
    rw [List.flatMap_cons, List.length_append, flat3_len xs, hl, List.length_cons]
    omega

/-- a row of indexes that the call owns -/
abbrev OIx (B : Nat) (w : World) (v : Value) (xs : List Ix) : Prop := RowK 32 3 B w v xs.length (xs.flatMap ixcells)

theorem OIx.nil (B : Nat) (w : World) : OIx B w (.slice none 0 0) [] := ⟨World.ownsRow_nil w B 32 3, fun u h => by cases h⟩
theorem OIx.is {B c : Nat} {a : Option Addr} {w : World} {xs : List Ix} (h : OIx B w (.slice a xs.length c) xs) : IxsIs w a xs ∧ (xs = [] ∨ ∃ g, a = some ⟨g, 0, none⟩ ∧ B ≤ g) := by
  by_cases h0 : xs = []
  · exact ⟨.inl h0, .inl h0⟩
  · have hp : 0 < xs.length := by cases xs with
      | nil => exact absurd rfl h0
      | cons x xs => simp
    obtain ⟨g, rfl, hB, hg, hc⟩ := RowK.at_ h hp
    refine ⟨.inr ⟨g, 0, rfl, hg, fun i hi => ?_⟩, .inr ⟨g, rfl, hB⟩⟩
    have h1 : ∀ q u, q < 3 → (ixcells xs[i])[q]? = some u → w.cell? ⟨g, i * 3 + q, none⟩ = some u := fun q u hq hu => hc _ _ (by rw [flat3 xs i hi q hq]; exact hu)
    have e : 0 + i * 3 = i * 3 := by omega
    refine ⟨?_, ?_, ?_⟩
    · have := h1 0 _ (by omega) rfl; rw [e]; exact this
    · have := h1 1 _ (by omega) rfl; rw [e]; exact this
    · have := h1 2 _ (by omega) rfl; rw [e]; exact this

theorem infoX : (Try.prog.info? 32).map (fun i => (i.zero, i.size, i.bytes)) = some (some (.agg #[.string ⟨#[]⟩, .string ⟨#[]⟩, .bool false]), 3, 40) := by kernel_rfl

/-- one index appended to a row that the call owns -/
theorem run_app_x {B : Nat} {w : World} {v : Value} {xs : List Ix} (h : OIx B w v xs) (hB : B ≤ w.heap.size) (hn : xs.length ≤ 100000) (x : Ix) :
    ∃ v' w', (Builtin.append_ #[23, 23] 23 #[v, .slice (some ⟨w.heap.size, 0, none⟩) 1 1]).run Try.prog (w.alloc (.cells #[.string x.name, .string x.field, .bool x.uniq] 32)) = .ok v' w' ∧ OIx B w' v' (xs ++ [x]) ∧ Up w v w' v' := by
  obtain ⟨i, hi, hz, hi1, hi2⟩ := info_parts infoX
  have hb := Box.new w 32 #[.string x.name, .string x.field, .bool x.uniq]
  obtain ⟨v', w', hr, ho', hu⟩ := run_app (P := Try.prog) (w.alloc (.cells #[.string x.name, .string x.field, .bool x.uniq] 32)) B 23 23 32 i _ 3 40 Try.underlying23 hi hz hi1 hi2 rfl (by decide) v xs.length (xs.flatMap ixcells) (World.ownsRow.alloc h.1 _)
    ⟨w.heap.size, 0, none⟩ 1 1 (ixcells x) rfl (fun j u hj => by
      rw [addr_at, hb.cell]
      simpa [ixcells] using hj) (by intro u hu; simp [ixcells] at hu; rcases hu with rfl | rfl | rfl <;> rfl) (by unfold maxLen; omega) (by omega) (by simp; omega)
  refine ⟨v', w', hr, ⟨?_, ?_⟩, hu.alloc⟩
  · rw [List.flatMap_append, List.length_append]
    simpa using ho'
  · intro u hu
    rw [List.flatMap_append, List.mem_append] at hu
    rcases hu with hu | hu
    · exact h.2 u hu
    · simp [ixcells] at hu; rcases hu with rfl | rfl | rfl <;> rfl

/-- what lies in memory meanwhile: the result's box, the collection's, the reader, the row -/
def DL (w : World) (nm : ByteArray) (W : World) (v : Value) (xs : List Ix) (st : St) : Prop :=
  RS W (w.heap.size + 2) st ∧ Below w.heap.size w W ∧ Box W w.heap.size 25 #[.string ⟨#[]⟩, .slice none 0 0] ∧ Box W (w.heap.size + 1) 25 #[.string nm, v] ∧ OIx (w.heap.size + 3) W v xs ∧ w.heap.size + 3 ≤ W.heap.size

theorem DL.reader {w W W' : World} {nm : ByteArray} {v : Value} {xs : List Ix} {st st' : St} (h : DL w nm W v xs st) (hg : GS W (w.heap.size + 2) st' W') : DL w nm W' v xs st' := by
  obtain ⟨h1, h2, h3, h4, h5, h6⟩ := h
  refine ⟨hg.1, h2.trans (hg.frame h2.size (by omega)), (hg.other h3.lt (by omega)).trans h3, (hg.other h4.lt (by omega)).trans h4, RowK.grown h5 hg.2 ?_, Nat.le_trans h6 hg.2.size⟩
  by_cases hv : v.ownBlock = none
  · exact .inl hv
  · refine .inr fun e => ?_
    have := (RowK.lt h5 _ e).1
    omega
theorem DL.below {w W W' : World} {nm : ByteArray} {v : Value} {xs : List Ix} {st : St} (h : DL w nm W v xs st) (hb : Below W.heap.size W W') : DL w nm W' v xs st := by
  obtain ⟨h1, h2, h3, h4, h5, h6⟩ := h
  exact ⟨h1.keep (hb.block _ h1.lt), h2.trans (hb.mono h2.size), (hb.block _ h3.lt).trans h3, (hb.block _ h4.lt).trans h4, RowK.below h5 hb, Nat.le_trans h6 hb.size⟩
/-- one index more -/
theorem DL.app {w W W' : World} {nm : ByteArray} {v v' : Value} {xs xs' : List Ix} {st : St} (h : DL w nm W v xs st) (ho : OIx (w.heap.size + 3) W' v' xs') (hu : Up W v W' v') : DL w nm (W'.setCell ⟨w.heap.size + 1, 1, none⟩ v') v' xs' st := by
  obtain ⟨h1, h2, h3, h4, h5, h6⟩ := h
  have hown : ∀ q, v.ownBlock = some q → w.heap.size + 3 ≤ q := fun q e => (RowK.lt h5 q e).1
  have hblk : ∀ q, q < w.heap.size + 3 → W'.heap[q]? = W.heap[q]? := fun q hq => hu.1.block q (by omega) (fun e => by have := hown q e.symm; omega)
  have g1 : Below w.heap.size w W' := h2.grown hu.1 h2.size fun q e => by have := hown q e; omega
  have h3' : Box W' w.heap.size 25 #[.string ⟨#[]⟩, .slice none 0 0] := (hblk _ (by omega)).trans h3
  have h4' : Box W' (w.heap.size + 1) 25 #[.string nm, v] := (hblk _ (by omega)).trans h4
  refine ⟨(h1.keep (hblk _ (by omega))).keep (Below.heap_setCell W' ⟨w.heap.size + 1, 1, none⟩ v' _ (by show w.heap.size + 2 ≠ w.heap.size + 1; omega)), g1.setCell (by show w.heap.size ≤ w.heap.size + 1; omega) _, Box.setFar h3' (by show w.heap.size ≠ w.heap.size + 1; omega) _, Box.setSame h4' 1 v', RowK.grown ho (grown_setCell W' (w.heap.size + 1) 1 v') ?_, ?_⟩
  · by_cases hv : v'.ownBlock = none
    · exact .inl hv
    · refine .inr fun e => ?_
      have := (RowK.lt ho _ e).1
      omega
  · have h9 := hu.1.size
    have : (W'.setCell ⟨w.heap.size + 1, 1, none⟩ v').heap.size = W'.heap.size := by simp [World.setCell]
    omega

theorem Box.two {w : World} {g : Nat} {c0 c1 : Value} {t : TypeId} (h : Box w g t #[c0, c1]) : w.cell? ⟨g, 0, none⟩ = some c0 ∧ w.cell? ⟨g, 1, none⟩ = some c1 := ⟨h.cell 0, h.cell 1⟩

/-- what Decode answers -/
def DecCoP (nm : ByteArray) (q : Option (List Ix)) (w : World) (e : Ending) (w' : World) : Prop :=
  Below w.heap.size w w' ∧ ((q = none ∧ e = .returned (.tuple #[.agg #[.string ⟨#[]⟩, .slice none 0 0], .int .i64 2])) ∨
    ∃ xs a c, q = some xs ∧ e = .returned (.tuple #[.agg #[.string nm, .slice a xs.length c], .int .i64 0]) ∧ xs.length ≤ c ∧ c ≤ maxLen ∧ IxsIs w' a xs ∧ (xs = [] ∨ ∃ g, a = some ⟨g, 0, none⟩ ∧ w.heap.size ≤ g))

attribute [-go_sem] Builtin.append_

set_option maxHeartbeats 8000000 in
set_option maxRecDepth 100000 in
theorem cdec_any (nm s : ByteArray) (hs : s.size ≤ 281474976710656) (w : World) :
    Calls Try.prog 7 #[.string nm, .string s] w (DecCoP nm (decCo nm s.data.toList) w) := by
  have hlen : stLen (some s.data.toList) := fun l e => by
    have : s.data.toList.length = s.size := by rw [Array.length_toList]; rfl
    injection e with e
    rw [← e]
    omega
  obtain ⟨q, hq⟩ : ∃ q, q = decCo nm s.data.toList := ⟨_, rfl⟩
  rw [← hq]
  unfold decCo at hq
  obtain ⟨W0, hW0⟩ : ∃ W0, W0 = ((w.alloc (.cells #[.string ⟨#[]⟩, .slice none 0 0] 25)).alloc (.cells #[.string nm, .slice none 0 0] 25)) := ⟨_, rfl⟩
  have hz0 : W0.heap.size = w.heap.size + 2 := by rw [hW0]; simp
  have hb0 : Below w.heap.size w W0 := by rw [hW0]; exact ((Below.refl _ w).alloc (Nat.le_refl _) _).alloc (by simp) _
  have hB0 : Box W0 w.heap.size 25 #[.string ⟨#[]⟩, .slice none 0 0] := by rw [hW0]; exact (Box.new w _ _).alloc _
  have hB1 : Box W0 (w.heap.size + 1) 25 #[.string nm, .slice none 0 0] := by
    rw [hW0]
    have := Box.new (w.alloc (.cells #[.string ⟨#[]⟩, .slice none 0 0] 25)) 25 #[.string nm, .slice none 0 0]
    rwa [World.size_alloc] at this
  have HRead : Hid (Calls Try.prog 23 #[.string s] W0 fun e w1 => e = .returned (.pointer (some ⟨w.heap.size + 2, 0, none⟩)) ∧ DL w nm w1 (.slice none 0 0) [] (some s.data.toList)) := Lib.hid ((read_any s W0).mono (by
    rintro e w1 ⟨rfl, hr, hb⟩
    rw [hz0] at hr hb
    refine ⟨by rw [hz0], ?_, hb0.trans (hb.mono (by omega)), (hb.block _ (by omega)).trans hB0, (hb.block _ (by omega)).trans hB1, OIx.nil _ _, Nat.lt_of_lt_of_le (Rd.lt hr) (Nat.le_refl _)⟩
    show Rd w1 (w.heap.size + 2) ⟨s.data.toList.toArray⟩ false
    simpa using hr))
  have hle := numS_le (some s.data.toList) 8
  have hlen1 := numS_len (M := 8) hlen
  obtain ⟨n, hn⟩ : ∃ n, n = (numS (some s.data.toList) 8).1 := ⟨_, rfl⟩
  obtain ⟨s1, hs1⟩ : ∃ x, x = (numS (some s.data.toList) 8).2 := ⟨_, rfl⟩
  have HNum : Hid (∀ w1, DL w nm w1 (.slice none 0 0) [] (some s.data.toList) → Calls Try.prog 24 #[.pointer (some ⟨w.heap.size + 2, 0, none⟩), .int .i64 8] w1 fun e w2 => e = .returned (.int .i64 (n : Int)) ∧ Hid (DL w nm w2 (.slice none 0 0) (ixS 0 s1).1 (ixS 0 s1).2)) := Lib.hid fun w1 h1 => by
    refine (num_s (w.heap.size + 2) _ 8 8 rfl (by omega) w1 h1.1).mono ?_
    rintro e w2 ⟨rfl, hg⟩
    rw [← hn]
    refine ⟨rfl, Lib.hid ?_⟩
    have := h1.reader hg
    rw [← hs1] at this
    exact this
  rw [← hn, ← hs1] at hq
  rw [← hn] at hle
  rw [← hs1] at hlen1
  have HQ := Lib.hid hq
  have HLE := Lib.hid hle
  have HLEN := Lib.hid hlen1
  clear hq hle hlen1 hlen hn hs1 hb0 hB0 hB1 hz0 hs
  go_enter Try.func7, Try.ntmps7
  go_wp2_with fail
  rw [← hW0]
  clear hW0
  refine HRead.out.mono ?_
  rintro e w1 ⟨rfl, h1⟩
  have HN := Lib.hid (HNum.out w1 h1)
  clear HNum HRead h1
  go_wp2_with fail
  refine HN.out.mono ?_
  rintro e w2 ⟨rfl, H2⟩
  clear HN
  go_wp2_with fail
  go_loopw [14] (fun i wr => ∃ j : Nat, j ≤ n ∧ i = .int .i64 (j : Int) ∧ Hid (∃ v, DL w nm wr v (ixS j s1).1 (ixS j s1).2)) (fun i _ => n - (intOf i).toNat)
  case atStart => exact ⟨0, Nat.zero_le _, rfl, Lib.hid ⟨_, H2.out⟩⟩
  case round =>
    clear H2
    obtain ⟨j, hj, rfl, HR⟩ := hrel
    obtain ⟨v, hdl⟩ := HR.out
    obtain ⟨va, vc, hv, hvc⟩ := RowK.form hdl.2.2.2.2.1
    rw [ixS_count] at hv hvc
    subst hv
    by_cases hlt : j < n
    · have hlt' : (j : Int) < (n : Int) := by omega
      obtain ⟨y0, y1⟩ := hdl.2.2.2.1.two
      have hyl := hdl.2.2.2.1.lt
      have hrd := hdl.below ((Below.refl _ wr).drew)
      have HT := Lib.hid (text_s (w.heap.size + 2) (ixS j s1).2 (ixS_len HLEN.out j) 40 40 rfl (by omega) wr.drew hrd.1)
      have HRD := Lib.hid hrd
      have HLT := Lib.hid hlt
      have HWR : Hid (wrap64 ((j : Int) + 1) = ((j + 1 : Nat) : Int)) := Lib.hid (by have h1 := HLT.out; have h2 := HLE.out; unfold wrap64; omega)
      have HFL : Hid (∀ w6, DL w nm w6 (.slice va j vc) (ixS j s1).1 (textS (textS (ixS j s1).2 40).2 40).2 → Calls Try.prog 26 #[.pointer (some ⟨w.heap.size + 2, 0, none⟩)] w6 fun e w7 => e = .returned (.bool (flagS (textS (textS (ixS j s1).2 40).2 40).2).1) ∧ ∃ pa pc w8,
          (Builtin.append_ #[23, 23] 23 #[.slice va j vc, .slice (some ⟨w7.heap.size, 0, none⟩) 1 1]).run Try.prog (w7.alloc (.cells #[.string ⟨(textS (ixS j s1).2 40).1.toArray⟩, .string ⟨(textS (textS (ixS j s1).2 40).2 40).1.toArray⟩, .bool (flagS (textS (textS (ixS j s1).2 40).2 40).2).1] 32)) = .ok (.slice pa (j + 1) pc) w8 ∧
          w7.cell? ⟨w.heap.size + 1, 0, none⟩ = some (.string nm) ∧ w7.cell? ⟨w.heap.size + 1, 1, none⟩ = some (.slice va j vc) ∧ w.heap.size + 1 < w7.heap.size ∧ w8.cell? ⟨w.heap.size + 1, 0, none⟩ = some (.string nm) ∧ w8.cell? ⟨w.heap.size + 1, 1, none⟩ = some (.slice va j vc) ∧ w.heap.size + 1 < w8.heap.size ∧ w8.frozen? ⟨w.heap.size + 1, 1, none⟩ = false ∧
          Hid (∃ v, DL w nm (w8.setCell ⟨w.heap.size + 1, 1, none⟩ (.slice pa (j + 1) pc)) v (ixS (j + 1) s1).1 (ixS (j + 1) s1).2)) := Lib.hid fun w6 h6 => by
        refine (flag_s (w.heap.size + 2) _ w6 h6.1).mono ?_
        rintro e w7 ⟨rfl, hg7⟩
        have hr7 := h6.reader hg7
        obtain ⟨v', w8, hr, ho8, hu8⟩ := run_app_x hr7.2.2.2.2.1 (by have := hr7.2.2.2.2.2; omega) (by rw [ixS_count]; have := HLT.out; have := HLE.out; omega) ⟨⟨(textS (ixS j s1).2 40).1.toArray⟩, ⟨(textS (textS (ixS j s1).2 40).2 40).1.toArray⟩, (flagS (textS (textS (ixS j s1).2 40).2 40).2).1⟩
        have hb7 := hr7.2.2.2.1
        have hlt7 := hb7.lt
        have hb8 : Box w8 (w.heap.size + 1) 25 #[.string nm, .slice va j vc] := (hu8.1.block _ hlt7 (fun e => by have := (RowK.lt hr7.2.2.2.2.1 _ e.symm).1; omega)).trans hb7
        obtain ⟨pa, pc, hv', _⟩ := RowK.form ho8
        rw [List.length_append, ixS_count] at hv'
        have hv' : v' = .slice pa (j + 1) pc := hv'
        subst hv'
        exact ⟨rfl, pa, pc, w8, hr, hb7.two.1, hb7.two.2, hlt7, hb8.two.1, hb8.two.2, hb8.lt, Box.free hb8 1, Lib.hid ⟨_, hr7.app ho8 hu8⟩⟩
      clear hdl hrd hlt HR
      go_wp2_with fail
      go_region_with (first
        | (go_at_call 25
           have hx := HRD5.out
           refine HT2.out.mono ?_
           rintro e w6 ⟨rfl, hg6⟩
           have hr6 := HRD5.out.reader hg6
           obtain ⟨x0, x1⟩ := hr6.2.2.2.1.two
           have hxl := hr6.2.2.2.1.lt
           have HRD6 := Lib.hid hr6
           clear hg6 hr6 hx)
        | (go_at_call 25
           refine HT.out.mono ?_
           rintro e w5 ⟨rfl, hg5⟩
           have hr5 := HRD.out.reader hg5
           have HT2 := Lib.hid (text_s (w.heap.size + 2) _ (textS_len (ixS_len HLEN.out j)) 40 40 rfl (by omega) w5 hr5.1)
           obtain ⟨z0, z1⟩ := hr5.2.2.2.1.two
           have hzl := hr5.2.2.2.1.lt
           have HRD5 := Lib.hid hr5
           clear hg5 hr5)
        | (go_at_call 26
           refine (HFL.out _ HRD6.out).mono ?_
           rintro e w7 ⟨rfl, pa, pc, w8, hr, q0, q1, hql, m0, m1, hml, hmf, HE⟩))
      all_goals
        go_wp2_with fail
        go_roundw
        case rel => exact ⟨j + 1, HLT.out, by (try rw [HWR.out]), HE⟩
        case measure => (try rw [HWR.out]); have h1 := HLT.out; simp [intOf]; omega
    · obtain rfl : j = n := by omega
      have hge : ¬ (j : Int) < (j : Int) := by omega
      have hcount := ixS_count s1 j
      obtain ⟨xs, hxs⟩ : ∃ xs, xs = (ixS j s1).1 := ⟨_, rfl⟩
      obtain ⟨st, hst⟩ : ∃ st, st = (ixS j s1).2 := ⟨_, rfl⟩
      have hq := HQ.out
      rw [← hxs] at hcount
      rw [← hxs, ← hst] at hdl hq
      have HE : Hid (Calls Try.prog 27 #[.pointer (some ⟨w.heap.size + 2, 0, none⟩)] wr fun e w' => e = .returned (.int .i64 (endS st)) ∧ wr = w') := Lib.hid (end_s (w.heap.size + 2) st wr hdl.1)
      have hix := OIx.is (hcount ▸ hdl.2.2.2.2.1 : OIx (w.heap.size + 3) wr (.slice va xs.length vc) xs)
      have HR : Hid (Calls Try.prog 8 #[.agg #[.string nm, .slice va j vc]] wr fun e w' => e = .returned (.bool (rightCo nm xs)) ∧ Below wr.heap.size wr w') := Lib.hid (cright_any (cap := vc) hix.1 hcount (by have := HLE.out; omega) hvc.1 nm)
      have HDL := Lib.hid hdl
      have HIX := Lib.hid hix
      have HC := Lib.hid hcount
      have HVC := Lib.hid hvc
      obtain ⟨y0, y1⟩ := hdl.2.2.2.1.two
      -- what is told where it is none
      have HNO : Hid (∀ W, Below wr.heap.size wr W → w.heap.size < W.heap.size ∧ W.frozen? ⟨w.heap.size, 0, none⟩ = false ∧ W.frozen? ⟨w.heap.size, 1, none⟩ = false ∧ W.cell? ⟨w.heap.size, 0, none⟩ = some (.string ⟨#[]⟩) ∧ W.cell? ⟨w.heap.size, 1, none⟩ = some (.slice none 0 0) ∧ W.cell? ⟨w.heap.size + 1, 0, none⟩ = some (.string nm) ∧ W.cell? ⟨w.heap.size + 1, 1, none⟩ = some (.slice va j vc) ∧
          ∀ c0 c1, ((W.setCell ⟨w.heap.size, 0, none⟩ c0).setCell ⟨w.heap.size, 1, none⟩ c1).cell? ⟨w.heap.size, 0, none⟩ = some c0 ∧ ((W.setCell ⟨w.heap.size, 0, none⟩ c0).setCell ⟨w.heap.size, 1, none⟩ c1).cell? ⟨w.heap.size, 1, none⟩ = some c1 ∧ Hid (Below w.heap.size w ((W.setCell ⟨w.heap.size, 0, none⟩ c0).setCell ⟨w.heap.size, 1, none⟩ c1) ∧ IxsIs ((W.setCell ⟨w.heap.size, 0, none⟩ c0).setCell ⟨w.heap.size, 1, none⟩ c1) va xs)) := Lib.hid fun W hb => by
        obtain ⟨_, hbw, hb0, hb1, hrow, _⟩ := HDL.out.below hb
        refine ⟨hb0.lt, Box.free hb0 0, Box.free hb0 1, hb0.two.1, hb0.two.2, hb1.two.1, hb1.two.2, fun c0 c1 => ?_⟩
        have h1 := (Box.setSame (Box.setSame hb0 0 c0) 1 c1)
        have h2 : Box ((W.setCell ⟨w.heap.size, 0, none⟩ c0).setCell ⟨w.heap.size, 1, none⟩ c1) w.heap.size 25 #[c0, c1] := h1
        refine ⟨h2.two.1, h2.two.2, Lib.hid ⟨(hbw.setCell (Nat.le_refl _) _).setCell (Nat.le_refl _) _, ?_⟩⟩
        rcases HIX.out.2 with h0 | ⟨g, hg, hgB⟩
        · exact .inl h0
        · rcases HIX.out.1 with h0 | ⟨b, off, e, hlt, hv⟩
          · exact .inl h0
          · rw [hg] at e
            injection e with e
            injection e with e1 e2
            subst e1
            have hk : ((W.setCell ⟨w.heap.size, 0, none⟩ c0).setCell ⟨w.heap.size, 1, none⟩ c1).heap[g]? = wr.heap[g]? := ((Below.heap_setCell _ ⟨w.heap.size, 1, none⟩ c1 g (by show g ≠ w.heap.size; omega)).trans (Below.heap_setCell _ ⟨w.heap.size, 0, none⟩ c0 g (by show g ≠ w.heap.size; omega))).trans (hb.block g hlt)
            refine .inr ⟨g, off, by rw [hg, ← e2], ?_, fun i hi => ?_⟩
            · have h5 := hb.size
              have : ((W.setCell ⟨w.heap.size, 0, none⟩ c0).setCell ⟨w.heap.size, 1, none⟩ c1).heap.size = W.heap.size := by simp [World.setCell]
              omega
            · obtain ⟨h0, h1, h2⟩ := hv i hi
              exact ⟨(World.cell?_of_block (a := ⟨g, _, none⟩) hk).trans h0, (World.cell?_of_block (a := ⟨g, _, none⟩) hk).trans h1, (World.cell?_of_block (a := ⟨g, _, none⟩) hk).trans h2⟩
      have HQ2 := Lib.hid hq
      clear hq hix hdl hcount hvc hlt HQ hst hxs
      go_wp2_with fail
      refine HE.out.mono ?_
      rintro e w9 ⟨rfl, rfl⟩
      by_cases he : endS st = 0
      · have hq := HQ2.out
        have hne : (endS st != 0) = false := by rw [he]; rfl
        cases hrc : rightCo nm xs with
        | true =>
          rw [hrc] at HR
          rw [if_pos ⟨he, hrc⟩] at hq
          have HQ3 := Lib.hid hq
          clear hq hrc he HE
          go_wp2_with fail
          refine HR.out.mono ?_
          rintro e w10 ⟨rfl, hb10⟩
          obtain ⟨zl, zf0, zf1, z0, z1, x0, x1, hfin⟩ := HNO.out w10 hb10
          obtain ⟨m0, m1, HF⟩ := hfin (.string nm) (.slice va j vc)
          clear hfin hb10 HNO HR y0 y1
          go_wp2
          refine bodyPost_ret (v := .tuple #[.agg #[.string nm, .slice va j vc], .int .i64 0]) (by simp [results, Try.results7, go_sem, m0, m1]) rfl ⟨HF.out.1, .inr ⟨xs, va, vc, HQ3.out, by rw [HC.out], by rw [HC.out]; exact HVC.out.1, HVC.out.2, HF.out.2, ?_⟩⟩
          exact HIX.out.2.imp id fun ⟨g, hg, hB⟩ => ⟨g, hg, by omega⟩
        | false =>
          rw [hrc] at HR
          rw [if_neg (fun h => by rw [hrc] at h; cases h.2)] at hq
          have HQ3 := Lib.hid hq
          clear hq hrc he HE
          go_wp2_with fail
          refine HR.out.mono ?_
          rintro e w10 ⟨rfl, hb10⟩
          obtain ⟨zl, zf0, zf1, z0, z1, x0, x1, hfin⟩ := HNO.out w10 hb10
          obtain ⟨m0, m1, HF⟩ := hfin (.string ⟨#[]⟩) (.slice none 0 0)
          clear hfin hb10 HNO HR y0 y1
          go_wp2
          exact bodyPost_ret (v := .tuple #[.agg #[.string ⟨#[]⟩, .slice none 0 0], .int .i64 2]) (by simp [results, Try.results7, go_sem, m0, m1]) rfl ⟨HF.out.1, .inl ⟨HQ3.out, rfl⟩⟩
      · have hq := HQ2.out
        have hne : (endS st != 0) = true := by simpa using he
        rw [if_neg (fun h => he h.1)] at hq
        have HQ3 := Lib.hid hq
        obtain ⟨zl, zf0, zf1, z0, z1, x0, x1, hfin⟩ := HNO.out wr (Below.refl _ _)
        obtain ⟨m0, m1, HF⟩ := hfin (.string ⟨#[]⟩) (.slice none 0 0)
        clear hfin HNO HR y0 y1 hq he
        go_wp2
        exact bodyPost_ret (v := .tuple #[.agg #[.string ⟨#[]⟩, .slice none 0 0], .int .i64 2]) (by simp [results, Try.results7, go_sem, m0, m1]) rfl ⟨HF.out.1, .inl ⟨HQ3.out, rfl⟩⟩

end Go.Proofs.Ytidbiefenjnodaa
