/-
  claim.Of.
-/
import Derived.Test.YtciknhilbemgdaaClT
import Derived.Test.YtciknhilbemgdaaClS
namespace Go.Proofs.Ytciknhilbemgdaa.cl
open Go.Proofs.Ytciknhilbemgdaa.tRow Go.RowKit Go.Maps Go.MapKept Go.WideMaps Go.ChangeMaps

/-- the claims that are no longer to come -/
def seenG (left : Lit → Bool) (gs : G) : G := gs.filter fun p => !left (.string p.1)

theorem seen_step {left : Lit → Bool} : ∀ {gs : G}, RiseG gs → ∀ {k : L8} {z : Int}, (k, z) ∈ gs → left (.string k) = true →
    (seenG (fun y => left y && !y.sameKey (.string k)) gs).Perm ((k, z) :: seenG left gs)
  | [], _, _, _, hx, _ => by cases hx
  | y :: r, h, k, z, hx, hl => by
    have h1 := List.pairwise_cons.1 h
    have hsame : ∀ j : L8, (Lit.string j).sameKey (.string k) = (j == k) := fun j => by simp [Lit.sameKey]
    by_cases e : y.1 = k
    · have hy : y = (k, z) := by
        rcases List.mem_cons.1 hx with h2 | h2
        · exact h2.symm
        · have := h1.1 _ h2
          rw [e, b_irr] at this
          cases this
      subst hy
      have e1 : seenG left ((k, z) :: r) = seenG left r := by unfold seenG; rw [List.filter_cons, if_neg (by simp [hl])]
      have e2 : seenG (fun y => left y && !y.sameKey (.string k)) ((k, z) :: r) = (k, z) :: seenG (fun y => left y && !y.sameKey (.string k)) r := by
        unfold seenG; rw [List.filter_cons, if_pos (by simp [hsame])]
      have e3 : seenG (fun y => left y && !y.sameKey (.string k)) r = seenG left r := by
        unfold seenG
        refine List.filter_congr fun p hp => ?_
        have : p.1 ≠ k := fun e => by
          have := h1.1 p hp
          rw [e, b_irr] at this
          cases this
        simp [hsame, this]
      rw [e1, e2, e3]
    · have hxr : (k, z) ∈ r := by
        rcases List.mem_cons.1 hx with h2 | h2
        · exact absurd (by rw [← h2]) e
        · exact h2
      have ih := seen_step (left := left) h1.2 hxr hl
      have hy : (left (.string y.1) && !(Lit.string y.1).sameKey (.string k)) = left (.string y.1) := by simp [hsame, e]
      unfold seenG at ih ⊢
      rw [List.filter_cons, List.filter_cons]
      simp only [hy] at ih ⊢
      cases left (.string y.1) with
      | true => simpa using ih
      | false =>
        simp only [Bool.not_false, if_true]
        exact (List.Perm.cons y ih).trans (List.Perm.swap _ _ _)
theorem seen_all {left : Lit → Bool} {gs : G} (h : ∀ kl, left kl = false) : seenG left gs = gs := by
  unfold seenG
  exact List.filter_eq_self.2 fun f _ => by rw [h]; rfl
theorem seen_none (gs : G) : seenG (Maps.has (dm (toV gs))) gs = [] := by
  unfold seenG
  refine List.filter_eq_nil_iff.2 fun p hp => ?_
  have : Maps.has (dm (toV gs)) (.string p.1) = true := by
    unfold dm Maps.has
    simp only [List.any_map, List.any_eq_true]
    exact ⟨(p.1, .int .i64 p.2), List.mem_map_of_mem hp, by simp [Lit.sameKey]⟩
  rw [this]; simp

/-- an entry that has come is one of the claims -/
theorem entry_g {gs : G} (hr : RiseG gs) {x : ByteArray} {cv : Value} {kl : Lit} {y : DataW Value × List MemPlace} (hkey : keyOf Try.prog 9 (.string x) = some kl) (hR : RV cv = some y) (hat : ∀ zd, (dm (toV gs)).atKey kl zd = y.1) :
    kl = .string x.data.toList ∧ x.size ≤ maxLen ∧ ∃ z, cv = .int .i64 z ∧ (x.data.toList, z) ∈ gs := by
  obtain ⟨s, e1, rfl, hs⟩ := Go.WideMaps.string_of_keyOf Try.underlying9 hkey
  obtain rfl : x = s := by injection e1
  obtain rfl : (.held cv, []) = y := Option.some.inj hR
  refine ⟨rfl, hs, ?_⟩
  have h1 := hat .nil
  rw [dm_at, toV_get] at h1
  cases hg : getG x.data.toList gs with
  | none => rw [hg] at h1; cases h1
  | some z =>
    rw [hg] at h1
    exact ⟨z, (DataW.held.inj h1).symm, (mem_get hr).2 hg⟩

theorem ss_low {B B' : Nat} {w : World} {v : Value} {ps : List ByteArray} (h : Ss B w v ps) (hB : B' ≤ B) : Ss B' w v ps := by
  obtain ⟨h1, h2⟩ := h
  refine ⟨h1, ?_⟩
  rcases h2 with h2 | ⟨g, cap, cur, h3, h4, h5⟩
  · exact .inl h2
  · exact .inr ⟨g, cap, cur, h3, Nat.le_trans hB h4, h5⟩

def OfP (gs : G) (who : Int) (w : World) (e : Ending) (w' : World) : Prop := ∃ v, e = .returned v ∧ Ss w.heap.size w' v ((ofG gs who).map mk8) ∧ Below w.heap.size w w'

theorem of_nil (w : World) (who : Int) : Calls Try.prog 12 #[.pointer none, .int .i64 who] w fun e w' => e = .returned (.slice none 0 0) ∧ w = w' := by
  go_enter Try.func12, Try.ntmps12
  go_wp2
  go_ret
  exact ⟨rfl, rfl⟩

set_option maxHeartbeats 4000000 in
set_option maxRecDepth 100000 in
theorem of_any {B : Nat → Prop} {w : World} {c n : Nat} {gs : G} (h : CAt B w c n gs) (hn : gs.length ≤ 100000) (who : Int) :
    Calls Try.prog 12 #[.pointer (some ⟨c, 0, none⟩), .int .i64 who] w (OfP gs who w) := by
  obtain ⟨h0, h1, mb, h2, h3⟩ := h
  have hc := cell_of_row w c 0 _ _ (0, 0) h2
  have HR := Lib.hid h0
  clear h0 h1 h2
  rcases h3 with ⟨rfl, rfl⟩ | ⟨b, rfl, h4, h5, h6⟩
  · have hrr := run_range_nilMap (P := Try.prog) w 28 _ _ Try.underlying28
    have hnx := fun ty => run_next_nilMap (P := Try.prog) w ty 0 0 #[]
    have hS := sort_none (w.alloc (.mapIter none 0 #[] 0)) none 0
    have HF : Hid (OfP [] who w (.returned (.slice none 0 0)) (w.alloc (.mapIter none 0 #[] 0))) := Lib.hid ⟨_, rfl, ss_nil _ _, (Below.refl _ w).alloc (Nat.le_refl _) _⟩
    go_enter Try.func12, Try.ntmps12
    go_wp2
    go_loopw [5] (fun v wr => v = .slice none 0 0 ∧ wr = w.alloc (.mapIter none 0 #[] 0)) (fun _ _ => 0)
    case atStart => exact ⟨rfl, rfl⟩
    case round =>
      obtain ⟨rfl, rfl⟩ := hrel
      go_wp2_with fail
      refine hS.mono ?_
      rintro e w1 ⟨rfl, rfl⟩
      go_wp2
      go_ret
      exact HF.out
  · have HOWN := Lib.hid h6
    have hb := h6.lt
    have HSZ : Hid (Maps.size (dm (toV gs)) = gs.length) := Lib.hid (toV_size gs)
    obtain ⟨D0, hD0⟩ : ∃ D0, D0 = dm (toV gs) := ⟨_, rfl⟩
    have HOWN : Hid (w.ownsMap Try.prog 9 RV b n D0) := Lib.hid (by rw [hD0]; exact h6)
    rw [← hD0] at HSZ
    have HD0 := Lib.hid hD0
    clear h4 h5 h6 hD0
    go_enter Try.func12, Try.ntmps12
    go_wp2_with (first
      | (at_range; refine wpList_range_own _ rfl _ 28 rfl 9 3 law_s Try.underlying28 RV b n D0 rfl HOWN.out ?_; intro w0 hrg0 hg0 hs0)
      | fail)
    go_frame
    have HST : Hid (∃ (left : Lit → Bool) (cnt : Nat) (ps : List L8), w0.ranges Try.prog 9 RV b w.heap.size n D0 left cnt ∧ ps.Perm (ofG (seenG left gs) who) ∧ Ss (w.heap.size + 1) w0 (.slice none 0 0) (ps.map mk8) ∧ Below w.heap.size w w0 ∧ w.heap.size + 1 ≤ w0.heap.size) := Lib.hid (by
      refine ⟨_, _, [], hrg0, ?_, ss_nil _ _, (Below.refl w.heap.size w).grown hg0 (Nat.le_refl _) (fun q hq => by cases hq), by omega⟩
      rw [HD0.out, seen_none]
      exact List.Perm.refl _)
    clear hrg0 hg0 hs0
    go_loopw [5] (fun v wr => Hid (∃ (left : Lit → Bool) (cnt : Nat) (ps : List L8), wr.ranges Try.prog 9 RV b w.heap.size n D0 left cnt ∧ ps.Perm (ofG (seenG left gs) who) ∧ Ss (w.heap.size + 1) wr v (ps.map mk8) ∧ Below w.heap.size w wr ∧ w.heap.size + 1 ≤ wr.heap.size)) (fun _ wr => wr.rangeLeft b w.heap.size)
    case atStart => exact HST
    case round =>
      obtain ⟨left, cnt, ps, hrg, hps, hown, hbw, hsz⟩ := hrel.out
      have HREL := Lib.hid (And.intro hps (And.intro hown (And.intro hbw hsz)))
      have hlen : ps.length ≤ 100000 := by
        rw [hps.length_eq]
        unfold ofG seenG
        rw [List.length_map]
        exact Nat.le_trans (List.length_filter_le _ _) (Nat.le_trans (List.length_filter_le _ _) hn)
      clear hrel HST hc hps hown hbw
      go_wp2_with (first
        | (at_next; refine wpList_next_ranges _ rfl _ rfl 9 law_s RV Value.string (fun v => v) (fun key kl hk => by obtain ⟨s, e, _⟩ := Go.WideMaps.string_of_keyOf Try.underlying9 hk; exact ⟨s, e⟩) (fun v _ _ => ⟨v, rfl⟩) b w.heap.size n D0 left cnt rfl hrg ?_ ?_)
        | fail)
      · intro hc0 hl0
        obtain ⟨q1, q2, q3, q4⟩ := HREL.out
        rw [seen_all hl0] at q1
        have HS := Lib.hid (sort_any q2 (by omega) (by omega))
        have HF : Hid (∀ w5, Ss (w.heap.size + 1) w5 u5 ((sorted ps).map mk8) → Below (w.heap.size + 1) wr w5 → OfP gs who w (.returned u5) w5) := Lib.hid fun w5 hs5 hb5 => by
          rw [sorted_of (of_rise HR.out who) q1] at hs5
          exact ⟨_, rfl, ss_low hs5 (by omega), q3.trans (hb5.mono (by omega))⟩
        clear hrg hl0 hc0 q1 q2 q3 q4 HREL
        go_wp2_with fail
        refine HS.out.mono ?_
        rintro e w5 ⟨rfl, hs5, hb5⟩
        have HF5 := Lib.hid (HF.out w5 hs5 hb5)
        clear hs5 hb5
        go_wp2
        go_ret
        exact HF5.out
      · intro x cv kl ya yb w1 cnt1 hkey hlk hRv hat hrg1 hlt hg1 hs1 hen
        obtain ⟨q1, q2, q3, q4⟩ := HREL.out
        rw [HD0.out] at hat
        obtain ⟨rfl, hxs, z, rfl, hmem⟩ := entry_g HR.out hkey hRv hat
        have hperm := seen_step HR.out hmem hlk
        have hb1 : Below w.heap.size w w1 := q3.grown hg1 q3.size fun q hq => by have := Option.some.inj hq; omega
        have hs2 : Ss (w.heap.size + 1) w1 u5 (ps.map mk8) := World.ownsRow.kept q2 hg1 (.inr (Ne.symm (row_ne_low q2 (Nat.lt_succ_self _))))
        have HM : Hid (cnt1 < wr.rangeLeft b w.heap.size) := Lib.hid (by rw [hrg.left_eq]; exact hlt)
        by_cases hz : z = who
        · have hrow3 : SRow (w1.alloc (.cells #[.string x] 9)) (some ⟨w1.heap.size, 0, none⟩) [x] := .inr ⟨w1.heap.size, 0, rfl, by simp, fun i hi => by
            obtain rfl : i = 0 := by simpa using hi
            simp⟩
          have hown3 : Ss (w.heap.size + 1) (w1.alloc (.cells #[.string x] 9)) u5 (ps.map mk8) := World.ownsRow.alloc hs2 _
          have hz3 : w.heap.size + 1 ≤ (w1.alloc (.cells #[.string x] 9)).heap.size := by simp; omega
          have HF : Hid (∀ v' w', Ss (w.heap.size + 1) w' v' (ps.map mk8 ++ [x]) → Up (w1.alloc (.cells #[.string x] 9)) u5 w' v' → w'.rangeLeft b w.heap.size < wr.rangeLeft b w.heap.size ∧
              ∃ (left : Lit → Bool) (cnt : Nat) (ps : List L8), w'.ranges Try.prog 9 RV b w.heap.size n D0 left cnt ∧ ps.Perm (ofG (seenG left gs) who) ∧ Ss (w.heap.size + 1) w' v' (ps.map mk8) ∧ Below w.heap.size w w' ∧ w.heap.size + 1 ≤ w'.heap.size) := Lib.hid fun v' w' hs' hu => by
            have hup := Ss.upBelow hu hown3 hz3
            have hrg2 := (hrg1.alloc (.cells #[.string x] 9)).kept (row := u5.ownBlock) hu.1 (fun e => by
              have := (World.ownsRow.lt hs2 _ e.symm).1
              omega) (fun e => by
              have := (World.ownsRow.lt hs2 _ e.symm).1
              omega)
            refine ⟨by rw [hrg2.left_eq]; exact HM.out, _, _, ps ++ [x.data.toList], hrg2, ?_, ?_, (hb1.alloc hb1.size _).trans (hup.mono (by omega)), Nat.le_trans hz3 hup.size⟩
            · have hp2 : (ofG (seenG (fun y => left y && !y.sameKey (.string x.data.toList)) gs) who).Perm (x.data.toList :: ofG (seenG left gs) who) := by
                unfold ofG
                have := (hperm.filter fun p => p.2 == who).map (·.1)
                rw [List.filter_cons_of_pos (by simp [hz])] at this
                exact this
              exact (List.perm_append_singleton _ _).trans ((q1.cons _).trans hp2.symm)
            · rw [List.map_append, List.map_singleton, mk8_list]
              exact hs'
          have hl1 : (ps.map mk8).length ≤ 100000 := by rw [List.length_map]; exact hlen
          subst hz
          clear hrg hlk hRv hat hrg1 hlt hg1 hs1 q1 q2 q3 q4 hperm hb1 hs2 HREL hmem hkey
          go_wp2_with (at_builtin; refine wpList_app_s _ rfl (.tmp 23) (.tmp 25) rfl (w.heap.size + 1) u5 (ps.map mk8) rfl hown3 _ 1 1 [x] hrow3 rfl (fun h => by cases h) rfl (by simp at hl1 ⊢; omega) hz3 ?_; intro v4 w4 hown4 hup4)
          have HF4 := Lib.hid (HF.out v4 w4 hown4 hup4)
          clear hown4 hup4
          go_roundw
          case rel => exact Lib.hid HF4.out.2
          case measure => exact HF4.out.1
        · have HF : Hid (∃ (left : Lit → Bool) (cnt : Nat) (ps : List L8), w1.ranges Try.prog 9 RV b w.heap.size n D0 left cnt ∧ ps.Perm (ofG (seenG left gs) who) ∧ Ss (w.heap.size + 1) w1 u5 (ps.map mk8) ∧ Below w.heap.size w w1 ∧ w.heap.size + 1 ≤ w1.heap.size) := Lib.hid (by
            refine ⟨_, _, ps, hrg1, ?_, hs2, hb1, by omega⟩
            refine q1.trans ?_
            unfold ofG
            have := (hperm.filter fun p => p.2 == who).map (·.1)
            rw [List.filter_cons_of_neg (by simp [hz])] at this
            exact this.symm)
          have HL1 : Hid (w1.rangeLeft b w.heap.size = cnt1) := Lib.hid hrg1.left_eq
          have hzz : (z == who) = false := by simp [hz]
          clear hrg hlk hRv hat hrg1 hlt hg1 hs1 q1 q2 q3 q4 hperm hb1 hs2 HREL hmem hkey hz
          go_wp2
          go_roundw
          case rel => exact HF
          case measure => rw [HL1.out]; exact HM.out

end Go.Proofs.Ytciknhilbemgdaa.cl
