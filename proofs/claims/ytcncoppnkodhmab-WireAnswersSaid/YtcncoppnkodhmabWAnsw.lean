/-
  WireAnswers: an answer among a law's arguments; its walk.
-/
import Derived.Test.YtcncoppnkodhmabWAnsR
import Derived.Lib.SmallJoins
import Derived.Deep.Strs
import Derived.SliceStrings
namespace Go.Proofs.Ytcncoppnkodhmab
open Go.ChangeShapes Go.WideShapes Go.ChangeAt Go.RowKit Go.Deep Go.Joins

theorem cellsAn : Try.prog.cellsOf 35 = 3 := by kernel_rfl

set_option maxRecDepth 100000 in
/-- an answer among a law's arguments -/
theorem an_arg {H : Type} {enc : TypeId × Value → H} {W : World} {base : Nat} {held : Bool} {v : Value} {d : DataW H} {ps : List MemPlace}
    (h : DataW.Trod enc Try.prog W base (fun _ => true) held 35 v d ps) : ∃ e n a len cap, v = .agg #[.int .i64 e, .int .i64 n, .slice a len cap] ∧ ∃ xs, tRow.Came W a len cap xs := by
  obtain ⟨fuel, hf⟩ := h
  obtain ⟨y0, y1, y2, m, _, hl, h0, h1, h2⟩ := trod_struct3 Try.underlying35 hf
  rw [cellsAn] at hl
  obtain ⟨cs, hcs⟩ : ∃ cs, cs = v.cells.toList := ⟨_, rfl⟩
  have hl' : cs.length = 3 := by rw [hcs]; simpa using hl
  obtain ⟨c0, c1, c2, hc3⟩ : ∃ c0 c1 c2, cs = [c0, c1, c2] := by
    rcases cs with _ | ⟨c0, _ | ⟨c1, _ | ⟨c2, _ | ⟨c3, r⟩⟩⟩⟩
    all_goals first | (exact ⟨c0, c1, c2, rfl⟩) | (simp at hl')
  rw [← hcs, hc3] at h0 h1 h2
  obtain ⟨s, e0, _, _⟩ := DataW.trod_int Try.underlying26 h0
  obtain ⟨t, e1, _, _⟩ := DataW.trod_int Try.underlying3 h1
  have h2 : DataW.trod enc Try.prog W base (fun _ => true) held m 33 ([c2].take (Try.prog.cellsOf 33)) = some y2 := h2
  rw [show Try.prog.cellsOf 33 = 1 by kernel_rfl] at h2
  have h2 : DataW.trod enc Try.prog W base (fun _ => true) held m 33 [c2] = some y2 := h2
  obtain ⟨a, len, cap, rfl⟩ : ∃ a len cap, c2 = .slice a len cap := by
    rcases open_strings Try.underlying33 Try.underlying9 (by kernel_rfl) h2 with ⟨hcs, _⟩ | ⟨x, l, c, ss, hcs, _⟩
    · exact ⟨none, 0, 0, by simpa using hcs⟩
    · exact ⟨_, _, _, by simpa using hcs⟩
  refine ⟨s, t, a, len, cap, ?_, tRow.came_of (d := y2.1) (pl := y2.2) ⟨m, h2⟩⟩
  have f0 : c0 = .int .i64 s := by
    have : [c0] = [.int .i64 s] := e0
    simpa using this
  have f1 : c1 = .int .i64 t := by
    have : [c1] = [.int .i64 t] := e1
    simpa using this
  rw [f0, f1] at hc3
  rw [hc3] at hcs
  cases v with
  | agg as' =>
    have hc : as'.toList = [.int .i64 s, .int .i64 t, .slice a len cap] := by rw [hcs]; simp [Value.cells]
    rw [show as' = ([.int .i64 s, .int .i64 t, .slice a len cap] : List Value).toArray by rw [← hc]]
  | _ => exfalso; simp [Value.cells] at hcs

end Go.Proofs.Ytcncoppnkodhmab

namespace Go.Proofs.Ytcncoppnkodhmab.wireAnswers
open Go.RowKit bsK rdS Go.Proofs.Ytcncoppnkodhmab.tRow

set_option linter.unusedVariables false
set_option linter.unusedSimpArgs false

/-- the two answers' boxes -/
def AnS (w : World) (A B : Array Value) (wr : World) : Prop := Below w.heap.size w wr ∧ Box wr w.heap.size 35 A ∧ Box wr (w.heap.size + 1) 35 B
theorem AnS.low {w wr w' : World} {A B : Array Value} (h : AnS w A B wr) (hb : Below wr.heap.size wr w') : AnS w A B w' := ⟨h.1.trans (hb.mono h.1.size), (hb.block _ h.2.1.lt).trans h.2.1, (hb.block _ h.2.2.lt).trans h.2.2⟩
theorem AnS.start (w : World) (A B : Array Value) : AnS w A B ((w.alloc (.cells A 35)).alloc (.cells B 35)) := by
  refine ⟨((Below.refl _ w).alloc (Nat.le_refl _) _).alloc (by rw [World.size_alloc]; omega) _, (Box.new w _ _).alloc _, ?_⟩
  have := Box.new (w.alloc (.cells A 35)) 35 B
  rwa [World.size_alloc] at this

set_option maxHeartbeats 8000000 in
set_option maxRecDepth 100000 in
/-- the ways out -/
theorem walk_out {w : World} (e1 n1 : Int) (a1 : Option Addr) (len1 cap1 : Nat) (e2 n2 : Int) (a2 : Option Addr) (len2 cap2 : Nat)
    (h : 60 < len1 ∨ (len1 ≤ 60 ∧ 60 < len2) ∨ (len1 ≤ 60 ∧ len2 ≤ 60 ∧ e1 < 0) ∨ (len1 ≤ 60 ∧ len2 ≤ 60 ∧ 0 ≤ e1 ∧ 1000 < e1) ∨ (len1 ≤ 60 ∧ len2 ≤ 60 ∧ 0 ≤ e1 ∧ e1 ≤ 1000 ∧ n1 < 0) ∨ (len1 ≤ 60 ∧ len2 ≤ 60 ∧ 0 ≤ e1 ∧ e1 ≤ 1000 ∧ 0 ≤ n1 ∧ 1099511627776 < n1)) :
    Calls Try.prog 5 #[.agg #[.int .i64 e1, .int .i64 n1, .slice a1 len1 cap1], .agg #[.int .i64 e2, .int .i64 n2, .slice a2 len2 cap2]] w fun r w' => r = .returned (.bool true) ∧ Below w.heap.size w w' := by
  obtain ⟨W2, hW2⟩ : ∃ W2, W2 = ((w.alloc (.cells #[.int .i64 e1, .int .i64 n1, .slice a1 len1 cap1] 35)).alloc (.cells #[.int .i64 e2, .int .i64 n2, .slice a2 len2 cap2] 35)) := ⟨_, rfl⟩
  have H0 : Hid (AnS w #[.int .i64 e1, .int .i64 n1, .slice a1 len1 cap1] #[.int .i64 e2, .int .i64 n2, .slice a2 len2 cap2] W2) := Lib.hid (by rw [hW2]; exact AnS.start w _ _)
  have h2 : (60 < (len1 : Int)) ∨ (¬ (60 < (len1 : Int)) ∧ 60 < (len2 : Int)) ∨ (¬ (60 < (len1 : Int)) ∧ ¬ (60 < (len2 : Int)) ∧ e1 < 0) ∨ (¬ (60 < (len1 : Int)) ∧ ¬ (60 < (len2 : Int)) ∧ ¬ (e1 < 0) ∧ 1000 < e1) ∨ (¬ (60 < (len1 : Int)) ∧ ¬ (60 < (len2 : Int)) ∧ ¬ (e1 < 0) ∧ ¬ (1000 < e1) ∧ n1 < 0) ∨ (¬ (60 < (len1 : Int)) ∧ ¬ (60 < (len2 : Int)) ∧ ¬ (e1 < 0) ∧ ¬ (1000 < e1) ∧ ¬ (n1 < 0) ∧ 1099511627776 < n1) := by omega
  clear h
  rcases h2 with q1 | ⟨q1, q2⟩ | ⟨q1, q2, q3⟩ | ⟨q1, q2, q3, q4⟩ | ⟨q1, q2, q3, q4, q5⟩ | ⟨q1, q2, q3, q4, q5, q6⟩
  all_goals
    go_enter Try.func5, Try.ntmps5
    go_wp2_with fail
    rw [← hW2]
    clear hW2
    refine (head18_any _).mono ?_
    rintro e w1 ⟨rfl, hb1⟩
    have H1 := Lib.hid (H0.out.low hb1)
    clear hb1 H0
    obtain ⟨y0, y1, y2⟩ := Box.three H1.out.2.1
    obtain ⟨z0, z1, z2⟩ := Box.three H1.out.2.2
    go_wp2
    go_ret
    exact ⟨rfl, H1.out.1⟩

theorem flat_few : ∀ (ps : List ByteArray), (∀ s ∈ ps, s.size ≤ 500) → (ps.flatMap octT).length ≤ 509 * ps.length
  | [], _ => by simp
  | s :: r, h => by
    have h1 := flat_few r fun x hx => h x (List.mem_cons_of_mem _ hx)
    have h2 := h s List.mem_cons_self
    have h3 := octN_lt s.size (by omega)
    have h4 : s.data.toList.length = s.size := Array.length_toList
    have h5 : (octT s).length ≤ 509 := by unfold octT; rw [List.length_append]; omega
    rw [List.flatMap_cons, List.length_append, List.length_cons]
    omega

attribute [local irreducible] wpStill

/-- between two rounds of the law's own comparison -/
def SmI (ps qs : List ByteArray) (SM : Bool) (j : Nat) (B : Bool) : Prop := (B = false ∧ SM = false) ∨ (B = true ∧ (SM = true ↔ ps = qs) ∧ ps.length = qs.length ∧ ∀ i (h : i < ps.length) (h' : i < qs.length), i < j → ps[i] = qs[i])

set_option maxHeartbeats 8000000 in
set_option maxRecDepth 100000 in
theorem walk_in {w : World} (k n : Nat) (hk : k ≤ 1000) (hn : n ≤ 1099511627776) (a1 : Option Addr) (len1 cap1 : Nat) (ps : List ByteArray) (h1 : Came w a1 len1 cap1 ps) (hl1 : len1 ≤ 60) (e2 n2 : Int) (a2 : Option Addr) (len2 cap2 : Nat) (qs : List ByteArray) (h2 : Came w a2 len2 cap2 qs) (hl2 : len2 ≤ 60) :
    Calls Try.prog 5 #[.agg #[.int .i64 (k : Int), .int .i64 (n : Int), .slice a1 len1 cap1], .agg #[.int .i64 e2, .int .i64 n2, .slice a2 len2 cap2]] w fun r w' => r = .returned (.bool true) ∧ Below w.heap.size w w' := by
  obtain ⟨hr1, hp1, _, _, _, _⟩ := h1
  obtain ⟨hr2, hp2, _, _, _, _⟩ := h2
  obtain ⟨W2, hW2⟩ : ∃ W2, W2 = ((w.alloc (.cells #[.int .i64 (k : Int), .int .i64 (n : Int), .slice a1 len1 cap1] 35)).alloc (.cells #[.int .i64 e2, .int .i64 n2, .slice a2 len2 cap2] 35)) := ⟨_, rfl⟩
  have H0 : Hid (AnS w #[.int .i64 (k : Int), .int .i64 (n : Int), .slice a1 len1 cap1] #[.int .i64 e2, .int .i64 n2, .slice a2 len2 cap2] W2) := Lib.hid (by rw [hW2]; exact AnS.start w _ _)
  have HR1 := Lib.hid hr1
  have HR2 := Lib.hid hr2
  have HP1 := Lib.hid hp1
  have HP2 := Lib.hid hp2
  obtain ⟨SM, hSM⟩ : ∃ SM, SM = smA ((k : Int) = e2 ∧ (n : Int) = n2 ∧ ps = qs) := ⟨_, rfl⟩
  have HSM := Lib.hid hSM
  have HSB : Hid (∀ W, SRow W a1 ps → SRow W a2 qs → Calls Try.prog 15 #[.agg #[.int .i64 (k : Int), .int .i64 (n : Int), .slice a1 len1 cap1], .agg #[.int .i64 e2, .int .i64 n2, .slice a2 len2 cap2]] W fun r w' => r = .returned (.bool SM) ∧ Below W.heap.size W w') := Lib.hid fun W h h' => by
    have := wsame_any (w := W) (k : Int) (n : Int) e2 n2 (cap1 := cap1) (cap2 := cap2) h hp1 h' hp2 (by omega) (by omega)
    rwa [← hSM] at this
  have q1 : ¬ (60 < (len1 : Int)) := by omega
  have q2 : ¬ (60 < (len2 : Int)) := by omega
  have q3 : ¬ ((k : Int) < 0) := by omega
  have q4 : ¬ (1000 < (k : Int)) := by omega
  have q5 : ¬ ((n : Int) < 0) := by omega
  have q6 : ¬ (1099511627776 < (n : Int)) := by omega
  clear hr1 hr2 hp1 hp2 hSM
  go_enter Try.func5, Try.ntmps5
  go_wp2_with fail
  rw [← hW2]
  clear hW2
  refine (head18_any _).mono ?_
  rintro e w1 ⟨rfl, hb1⟩
  have H1 := Lib.hid (H0.out.low hb1)
  clear hb1 H0
  obtain ⟨y0, y1, y2⟩ := Box.three H1.out.2.1
  obtain ⟨z0, z1, z2⟩ := Box.three H1.out.2.2
  go_wp2_with fail
  clear y0 y1 y2 z0 z1 z2 q1 q2 q3 q4 q5 q6
  go_loopw [47] (fun i wr => ∃ j : Nat, j ≤ len1 ∧ i = .int .i64 (j : Int) ∧ wr = w1 ∧ Hid (∀ i (h : i < ps.length), i < j → (ps[i]).size ≤ 500)) (fun i _ => len1 - (intOf i).toNat)
  case atStart => exact ⟨0, Nat.zero_le _, rfl, rfl, Lib.hid fun i _ h => absurd h (Nat.not_lt_zero _)⟩
  case round =>
    obtain ⟨j, hj, rfl, rfl, hst⟩ := hrel
    by_cases hlt : j < len1
    · have hltI : (j : Int) < (len1 : Int) := by omega
      have hjp : j < ps.length := by rw [HP1.out]; exact hlt
      obtain ⟨b, off, rfl, g1, c1⟩ := srow_at (HR1.out.below H1.out.1) j hjp
      by_cases h5 : (ps[j]).size ≤ 500
      · have HN : Hid (∀ i (h : i < ps.length), i < j + 1 → (ps[i]).size ≤ 500) := Lib.hid fun i h hi => by
          by_cases e : i = j
          · subst e; exact h5
          · exact hst.out i h (by omega)
        have h5I : ¬ ((500 : Int) < ((ps[j]).size : Int)) := by omega
        obtain ⟨x, hx⟩ : ∃ x, x = ps[j] := ⟨_, rfl⟩
        rw [← hx] at c1 h5I
        clear hx h5 hst
        go_wp2_with fail
        go_roundw
        case rel => exact ⟨j + 1, by omega, by go_num, by first | rfl | trivial, HN⟩
        case measure => simp [intOf]; omega
      · have h5I : (500 : Int) < ((ps[j]).size : Int) := by omega
        obtain ⟨x, hx⟩ : ∃ x, x = ps[j] := ⟨_, rfl⟩
        rw [← hx] at c1 h5I
        clear hx h5 hst
        go_wp2
        go_ret
        exact ⟨rfl, H1.out.1⟩
    · obtain rfl : j = len1 := by omega
      have hge : ¬ ((j : Int) < (j : Int)) := by omega
      have h500 : ∀ s ∈ ps, s.size ≤ 500 := fun s hs => by
        obtain ⟨i, hi, rfl⟩ := List.getElem_of_mem hs
        exact hst.out i hi (by rw [← HP1.out]; exact hi)
      have hff := flat_few ps h500
      have hpl : ps.length ≤ 60 := by rw [HP1.out]; exact hl1
      obtain ⟨xs, hxs⟩ : ∃ xs : ByteArray, xs = ⟨(octAn k n ps).toArray⟩ := ⟨_, rfl⟩
      have hxl : xs.size ≤ 900000 := by
        have h1 : xs.size = (octAn k n ps).length := by rw [hxs]; rfl
        have h2 := octN_lt k (by omega)
        have h3 := octN_lt n (by omega)
        have h4 := octN_lt ps.length (by omega)
        rw [h1]
        unfold octAn
        simp only [List.length_append]
        omega
      have HE : Hid (Calls Try.prog 16 #[.agg #[.int .i64 (k : Int), .int .i64 (n : Int), .slice a1 j cap1]] wr fun r w' => r = .returned (.string xs) ∧ Hid (Below wr.heap.size wr w')) := Lib.hid (by
        have := waenc_any (w := wr) (k : Int) (n : Int) (by omega) (by omega) (cap := cap1) (HR1.out.below H1.out.1) (by omega) (by omega) (fun s hs => by have := h500 s hs; omega)
        rw [HP1.out] at this
        refine this.mono ?_
        rintro r w' ⟨rfl, hb⟩
        rw [Int.toNat_natCast, Int.toNat_natCast]
        exact ⟨by rw [hxs], Lib.hid hb⟩)
      have HD : Hid (∀ W, Calls Try.prog 14 #[.string xs] W fun r w' => ∃ a c, r = .returned (.tuple #[.agg #[.int .i64 (k : Int), .int .i64 (n : Int), .slice a j c], .int .i64 0]) ∧ Hid (Below W.heap.size W w' ∧ SRow w' a ps)) := Lib.hid fun W => by
        refine (wansr_any xs hxl W).mono ?_
        have hd : xs.data.toList = octAn k n ps := by rw [hxs]
        rw [hd, readAn_laid hk hn (by omega) (fun s hs => by have := h500 s hs; omega)]
        rintro r w' ⟨hb, ⟨h, _⟩ | ⟨k', n', ps', a, c, h, rfl, hrow⟩⟩
        · cases h
        · simp only [Option.some.injEq, Prod.mk.injEq] at h
          obtain ⟨rfl, rfl, rfl⟩ := h
          rw [HP1.out]
          exact ⟨a, c, rfl, Lib.hid ⟨hb, hrow⟩⟩
      clear hst h500 hff hpl hxs hxl hk hn
      obtain ⟨y0, y1, y2⟩ := Box.three H1.out.2.1
      go_wp2_with fail
      refine HE.out.mono ?_
      rintro e w3 ⟨rfl, HB3⟩
      have H3 := Lib.hid (H1.out.low HB3.out)
      clear HE HB3 y0 y1 y2 H1
      go_wp2_with fail
      refine (HD.out _).mono ?_
      rintro e w4 ⟨a, c, rfl, HB4⟩
      clear HD
      have H4 : Hid (AnS w #[.int .i64 (k : Int), .int .i64 (n : Int), .slice a1 j cap1] #[.int .i64 e2, .int .i64 n2, .slice a2 len2 cap2] w4) := Lib.hid (H3.out.low HB4.out.1)
      have H5 : Hid (AnS w #[.int .i64 (k : Int), .int .i64 (n : Int), .slice a1 j cap1] #[.int .i64 e2, .int .i64 n2, .slice a2 len2 cap2] (w4.alloc (.cells #[.int .i64 (k : Int), .int .i64 (n : Int), .slice a j c] 35)) ∧ Box (w4.alloc (.cells #[.int .i64 (k : Int), .int .i64 (n : Int), .slice a j c] 35)) w4.heap.size 35 #[.int .i64 (k : Int), .int .i64 (n : Int), .slice a j c] ∧ SRow (w4.alloc (.cells #[.int .i64 (k : Int), .int .i64 (n : Int), .slice a j c] 35)) a ps) := Lib.hid (by
        have hb := (Below.refl w4.heap.size w4).alloc (Nat.le_refl _) (.cells #[.int .i64 (k : Int), .int .i64 (n : Int), .slice a j c] 35)
        exact ⟨H4.out.low hb, Box.new w4 _ _, HB4.out.2.below hb⟩)
      clear H3 HB4
      obtain ⟨g, hg⟩ : ∃ g, g = w4.heap.size := ⟨_, rfl⟩
      rw [← hg] at H5
      obtain ⟨y0, y1, y2⟩ := Box.three H4.out.2.1
      obtain ⟨z0, z1, z2⟩ := Box.three H4.out.2.2
      have hy4 := H4.out.2.1.lt
      have hz4 := H4.out.2.2.lt
      clear H4
      -- REGION 12
      by_cases w1e : (k : Int) = e2
      · subst w1e
        by_cases w2e : (n : Int) = n2
        · subst w2e
          by_cases w3e : j = len2
          · subst w3e
            have HI0 : Hid (SmI ps qs SM 0 true) := Lib.hid (.inr ⟨rfl, by
              rw [HSM.out]
              constructor
              · intro h
                by_cases e : ps = qs
                · exact e
                · rw [smA_false fun h => e h.2.2] at h; cases h
              · exact fun h => smA_true ⟨rfl, rfl, h⟩, by rw [HP1.out, HP2.out], fun i _ _ h => absurd h (Nat.not_lt_zero _)⟩)
            clear HSM
            go_wp2_with fail
            rw [← hg]
            clear hg y0 y1 y2 z0 z1 z2 hy4 hz4
            go_loopw [10, 9] (fun i sv wr => ∃ (j2 : Nat) (B : Bool), j2 ≤ j ∧ i = .int .i64 (j2 : Int) ∧ sv = .bool B ∧ Hid (SmI ps qs SM j2 B) ∧ Hid (AnS w #[.int .i64 (k : Int), .int .i64 (n : Int), .slice a1 j cap1] #[.int .i64 (k : Int), .int .i64 (n : Int), .slice a2 j cap2] wr ∧ Box wr g 35 #[.int .i64 (k : Int), .int .i64 (n : Int), .slice a j c] ∧ SRow wr a ps)) (fun i _ _ => j + 1 - (intOf i).toNat)
            case atStart => exact ⟨0, true, Nat.zero_le _, rfl, by first | rfl | (congr 1; rw [beq_eq_false_iff_ne]; first | exact w3i | omega), HI0, H5⟩
            case round =>
              obtain ⟨j2, B, hj2, rfl, rfl, HI, HN⟩ := hrel
              clear H5 HI0
              cases B with
              | false =>
                have HX : Hid (SM = false) := Lib.hid (by rcases HI.out with h | h; exact h.2; cases h.1)
                clear HI
                have HSMV : Hid (SM = false) := HX
                have HS1 : Hid (∀ W, SRow W a1 ps → SRow W a ps → Calls Try.prog 15 #[.agg #[.int .i64 (k : Int), .int .i64 (n : Int), .slice a j c], .agg #[.int .i64 (k : Int), .int .i64 (n : Int), .slice a1 j cap1]] W fun r w' => r = .returned (.bool true) ∧ Below W.heap.size W w') := Lib.hid fun W h h' => by
                  have := wsame_any (w := W) (k : Int) (n : Int) (k : Int) (n : Int) (cap1 := c) (cap2 := cap1) h' HP1.out h HP1.out (by omega) (by omega)
                  rwa [smA_true ⟨rfl, rfl, rfl⟩] at this
                have HS2 : Hid (∀ W, SRow W a1 ps → SRow W a2 qs → Calls Try.prog 15 #[.agg #[.int .i64 (k : Int), .int .i64 (n : Int), .slice a1 j cap1], .agg #[.int .i64 (k : Int), .int .i64 (n : Int), .slice a2 j cap2]] W fun r w' => r = .returned (.bool false) ∧ Below W.heap.size W w') := Lib.hid fun W h h' => by
                  have := HSB.out W h h'
                  rwa [HSMV.out] at this
                clear HSB
                obtain ⟨y0, y1, y2⟩ := Box.three HN.out.1.2.1
                go_wp2_with fail
                refine (wfail_any _ _).mono ?_
                rintro r w6 ⟨rfl, hb6⟩
                have HN7 : Hid (AnS w #[.int .i64 (k : Int), .int .i64 (n : Int), .slice a1 j cap1] #[.int .i64 (k : Int), .int .i64 (n : Int), .slice a2 j cap2] (w6.alloc (.cells #[.int .i64 (k : Int), .int .i64 0, .slice none 0 0] 35)) ∧ Box (w6.alloc (.cells #[.int .i64 (k : Int), .int .i64 0, .slice none 0 0] 35)) g 35 #[.int .i64 (k : Int), .int .i64 (n : Int), .slice a j c] ∧ Box (w6.alloc (.cells #[.int .i64 (k : Int), .int .i64 0, .slice none 0 0] 35)) w6.heap.size 35 #[.int .i64 (k : Int), .int .i64 0, .slice none 0 0] ∧ SRow (w6.alloc (.cells #[.int .i64 (k : Int), .int .i64 0, .slice none 0 0] 35)) a ps) := Lib.hid (by
                  have h9 := hb6.trans (((Below.refl w6.heap.size w6).alloc (Nat.le_refl _) (.cells #[.int .i64 (k : Int), .int .i64 0, .slice none 0 0] 35)).mono hb6.size)
                  exact ⟨HN.out.1.low h9, (h9.block _ HN.out.2.1.lt).trans HN.out.2.1, Box.new w6 _ _, HN.out.2.2.below h9⟩)
                have HN6 : Hid (AnS w #[.int .i64 (k : Int), .int .i64 (n : Int), .slice a1 j cap1] #[.int .i64 (k : Int), .int .i64 (n : Int), .slice a2 j cap2] w6 ∧ Box w6 g 35 #[.int .i64 (k : Int), .int .i64 (n : Int), .slice a j c]) := Lib.hid ⟨HN.out.1.low hb6, (hb6.block _ HN.out.2.1.lt).trans HN.out.2.1⟩
                obtain ⟨gf, hgf⟩ : ∃ gf, gf = w6.heap.size := ⟨_, rfl⟩
                rw [← hgf] at HN7
                clear hb6 HN y0 y1 y2
                obtain ⟨y0, y1, y2⟩ := Box.three HN6.out.1.2.1
                obtain ⟨x0, x1, x2⟩ := Box.three HN6.out.2
                have hg6 := HN6.out.2.lt
                have hy6 := HN6.out.1.2.1.lt
                clear HN6
                go_wp2_with fail
                rw [← hgf]
                clear hgf hg6 hy6
                refine (HS1.out _ (HR1.out.below HN7.out.1.1) HN7.out.2.2.2).mono ?_
                rintro r w8 ⟨rfl, hb8⟩
                have HN8 : Hid (AnS w #[.int .i64 (k : Int), .int .i64 (n : Int), .slice a1 j cap1] #[.int .i64 (k : Int), .int .i64 (n : Int), .slice a2 j cap2] w8 ∧ Box w8 gf 35 #[.int .i64 (k : Int), .int .i64 0, .slice none 0 0]) := Lib.hid ⟨HN7.out.1.low hb8, (hb8.block _ HN7.out.2.2.1.lt).trans HN7.out.2.2.1⟩
                clear hb8 HN7 HS1 y0 y1 y2 x0 x1 x2
                obtain ⟨y0, y1, y2⟩ := Box.three HN8.out.1.2.1
                obtain ⟨z0, z1, z2⟩ := Box.three HN8.out.1.2.2
                go_wp2_with fail
                refine (HS2.out _ (HR1.out.below HN8.out.1.1) (HR2.out.below HN8.out.1.1)).mono ?_
                rintro r w9 ⟨rfl, hb9⟩
                have HN9 : Hid (AnS w #[.int .i64 (k : Int), .int .i64 (n : Int), .slice a1 j cap1] #[.int .i64 (k : Int), .int .i64 (n : Int), .slice a2 j cap2] w9 ∧ Box w9 gf 35 #[.int .i64 (k : Int), .int .i64 0, .slice none 0 0]) := Lib.hid ⟨HN8.out.1.low hb9, (hb9.block _ HN8.out.2.lt).trans HN8.out.2⟩
                clear hb9 HN8 HS2 y0 y1 y2 z0 z1 z2
                obtain ⟨y0, y1, y2⟩ := Box.three HN9.out.1.2.1
                obtain ⟨x0, x1, x2⟩ := Box.three HN9.out.2
                have HBL := Lib.hid HN9.out.1.1
                clear HN9
                go_wp2
                go_ret
                exact ⟨rfl, HBL.out⟩
              | true =>
                by_cases hlt2 : j2 < j
                · have hlt2I : (j2 : Int) < (j : Int) := by omega
                  have hp2 : j2 < ps.length := by rw [HP1.out]; exact hlt2
                  have HF : Hid ((SM = true ↔ ps = qs) ∧ ps.length = qs.length ∧ ∀ i (h : i < ps.length) (h' : i < qs.length), i < j2 → ps[i] = qs[i]) := Lib.hid (by rcases HI.out with h | h; cases h.1; exact h.2)
                  have hq2 : j2 < qs.length := by rw [← HF.out.2.1]; exact hp2
                  have hl2I : (j2 : Int) < (j : Int) := by have := HP2.out; omega
                  obtain ⟨b1, o1, rfl, g1, c1⟩ := srow_at (HR1.out.below HN.out.1.1) j2 hp2
                  obtain ⟨b2, o2, rfl, g2, c2⟩ := srow_at (HR2.out.below HN.out.1.1) j2 hq2
                  obtain ⟨y0, y1, y2⟩ := Box.three HN.out.1.2.1
                  obtain ⟨z0, z1, z2⟩ := Box.three HN.out.1.2.2
                  have HND := Lib.hid (show AnS w _ _ wr.drew ∧ Box wr.drew g 35 _ ∧ SRow wr.drew a ps from ⟨HN.out.1.low (Below.refl _ _).drew, HN.out.2.1, HN.out.2.2.below (Below.refl _ _).drew⟩)
                  by_cases he : ps[j2] = qs[j2]
                  · have HI2 : Hid (SmI ps qs SM (j2 + 1) true) := Lib.hid (.inr ⟨rfl, HF.out.1, HF.out.2.1, fun i h h' hi => by
                      by_cases e : i = j2
                      · subst e; exact he
                      · exact HF.out.2.2 i h h' (by omega)⟩)
                    obtain ⟨x, hx⟩ : ∃ x, x = ps[j2] := ⟨_, rfl⟩
                    rw [← he, ← hx] at c2
                    rw [← hx] at c1
                    have hxx : (x.toList == x.toList) = true := by simp
                    clear hx he HN HI HF
                    go_wp2_with fail
                    refine wp_region_still_lit (by rfl) (by kernel_rfl) ?_
                    change wpStill _ _ (World.drew _) (fun a' => _) _ _
                    repeat still_step
                    refine wpStill_nil ?_
                    go_wp2_with fail
                    go_roundw
                    case rel => exact ⟨j2 + 1, true, by omega, by go_num, rfl, HI2, HND⟩
                    case measure => simp [intOf]; omega
                  · have HI2 : Hid (SmI ps qs SM (j2 + 1) false) := Lib.hid (.inl ⟨rfl, by
                      cases hsm : SM with
                      | false => rfl
                      | true => exact absurd (by have := HF.out.1.1 hsm; subst this; rfl) he⟩)
                    have hxx : (ps[j2].toList == qs[j2].toList) = false := by
                      rw [beq_eq_false_iff_ne]
                      exact fun h => he (blA_inj h)
                    obtain ⟨x, hx⟩ : ∃ x, x = ps[j2] := ⟨_, rfl⟩
                    obtain ⟨y, hy⟩ : ∃ y, y = qs[j2] := ⟨_, rfl⟩
                    rw [← hx] at c1 hxx
                    rw [← hy] at c2 hxx
                    clear hx hy he HN HI HF
                    go_wp2_with fail
                    refine wp_region_still_lit (by rfl) (by kernel_rfl) ?_
                    change wpStill _ _ (World.drew _) (fun a' => _) _ _
                    repeat still_step
                    refine wpStill_nil ?_
                    go_wp2_with fail
                    go_roundw
                    case rel => exact ⟨j2 + 1, false, by omega, by go_num, rfl, HI2, HND⟩
                    case measure => simp [intOf]; omega
                · obtain rfl : j = j2 := by omega
                  have hge2 : ¬ ((j : Int) < (j : Int)) := by omega
                  have HX : Hid (SM = true) := Lib.hid (by
                    rcases HI.out with h | h
                    · cases h.1
                    · exact h.2.1.2 (List.ext_getElem h.2.2.1 fun i h1 h2 => h.2.2.2 i h1 h2 (by rw [← HP1.out]; exact h1)))
                  clear HI
                  have HSMV : Hid (SM = true) := HX
                  have HS1 : Hid (∀ W, SRow W a1 ps → SRow W a ps → Calls Try.prog 15 #[.agg #[.int .i64 (k : Int), .int .i64 (n : Int), .slice a j c], .agg #[.int .i64 (k : Int), .int .i64 (n : Int), .slice a1 j cap1]] W fun r w' => r = .returned (.bool true) ∧ Below W.heap.size W w') := Lib.hid fun W h h' => by
                    have := wsame_any (w := W) (k : Int) (n : Int) (k : Int) (n : Int) (cap1 := c) (cap2 := cap1) h' HP1.out h HP1.out (by omega) (by omega)
                    rwa [smA_true ⟨rfl, rfl, rfl⟩] at this
                  have HS2 : Hid (∀ W, SRow W a1 ps → SRow W a2 qs → Calls Try.prog 15 #[.agg #[.int .i64 (k : Int), .int .i64 (n : Int), .slice a1 j cap1], .agg #[.int .i64 (k : Int), .int .i64 (n : Int), .slice a2 j cap2]] W fun r w' => r = .returned (.bool true) ∧ Below W.heap.size W w') := Lib.hid fun W h h' => by
                    have := HSB.out W h h'
                    rwa [HSMV.out] at this
                  clear HSB
                  obtain ⟨y0, y1, y2⟩ := Box.three HN.out.1.2.1
                  go_wp2_with fail
                  refine (wfail_any _ _).mono ?_
                  rintro r w6 ⟨rfl, hb6⟩
                  have HN7 : Hid (AnS w #[.int .i64 (k : Int), .int .i64 (n : Int), .slice a1 j cap1] #[.int .i64 (k : Int), .int .i64 (n : Int), .slice a2 j cap2] (w6.alloc (.cells #[.int .i64 (k : Int), .int .i64 0, .slice none 0 0] 35)) ∧ Box (w6.alloc (.cells #[.int .i64 (k : Int), .int .i64 0, .slice none 0 0] 35)) g 35 #[.int .i64 (k : Int), .int .i64 (n : Int), .slice a j c] ∧ Box (w6.alloc (.cells #[.int .i64 (k : Int), .int .i64 0, .slice none 0 0] 35)) w6.heap.size 35 #[.int .i64 (k : Int), .int .i64 0, .slice none 0 0] ∧ SRow (w6.alloc (.cells #[.int .i64 (k : Int), .int .i64 0, .slice none 0 0] 35)) a ps) := Lib.hid (by
                    have h9 := hb6.trans (((Below.refl w6.heap.size w6).alloc (Nat.le_refl _) (.cells #[.int .i64 (k : Int), .int .i64 0, .slice none 0 0] 35)).mono hb6.size)
                    exact ⟨HN.out.1.low h9, (h9.block _ HN.out.2.1.lt).trans HN.out.2.1, Box.new w6 _ _, HN.out.2.2.below h9⟩)
                  have HN6 : Hid (AnS w #[.int .i64 (k : Int), .int .i64 (n : Int), .slice a1 j cap1] #[.int .i64 (k : Int), .int .i64 (n : Int), .slice a2 j cap2] w6 ∧ Box w6 g 35 #[.int .i64 (k : Int), .int .i64 (n : Int), .slice a j c]) := Lib.hid ⟨HN.out.1.low hb6, (hb6.block _ HN.out.2.1.lt).trans HN.out.2.1⟩
                  obtain ⟨gf, hgf⟩ : ∃ gf, gf = w6.heap.size := ⟨_, rfl⟩
                  rw [← hgf] at HN7
                  clear hb6 HN y0 y1 y2
                  obtain ⟨y0, y1, y2⟩ := Box.three HN6.out.1.2.1
                  obtain ⟨x0, x1, x2⟩ := Box.three HN6.out.2
                  have hg6 := HN6.out.2.lt
                  have hy6 := HN6.out.1.2.1.lt
                  clear HN6
                  go_wp2_with fail
                  rw [← hgf]
                  clear hgf hg6 hy6
                  refine (HS1.out _ (HR1.out.below HN7.out.1.1) HN7.out.2.2.2).mono ?_
                  rintro r w8 ⟨rfl, hb8⟩
                  have HN8 : Hid (AnS w #[.int .i64 (k : Int), .int .i64 (n : Int), .slice a1 j cap1] #[.int .i64 (k : Int), .int .i64 (n : Int), .slice a2 j cap2] w8 ∧ Box w8 gf 35 #[.int .i64 (k : Int), .int .i64 0, .slice none 0 0]) := Lib.hid ⟨HN7.out.1.low hb8, (hb8.block _ HN7.out.2.2.1.lt).trans HN7.out.2.2.1⟩
                  clear hb8 HN7 HS1 y0 y1 y2 x0 x1 x2
                  obtain ⟨y0, y1, y2⟩ := Box.three HN8.out.1.2.1
                  obtain ⟨z0, z1, z2⟩ := Box.three HN8.out.1.2.2
                  go_wp2_with fail
                  refine (HS2.out _ (HR1.out.below HN8.out.1.1) (HR2.out.below HN8.out.1.1)).mono ?_
                  rintro r w9 ⟨rfl, hb9⟩
                  have HN9 : Hid (AnS w #[.int .i64 (k : Int), .int .i64 (n : Int), .slice a1 j cap1] #[.int .i64 (k : Int), .int .i64 (n : Int), .slice a2 j cap2] w9 ∧ Box w9 gf 35 #[.int .i64 (k : Int), .int .i64 0, .slice none 0 0]) := Lib.hid ⟨HN8.out.1.low hb9, (hb9.block _ HN8.out.2.lt).trans HN8.out.2⟩
                  clear hb9 HN8 HS2 y0 y1 y2 z0 z1 z2
                  obtain ⟨y0, y1, y2⟩ := Box.three HN9.out.1.2.1
                  obtain ⟨x0, x1, x2⟩ := Box.three HN9.out.2
                  have HBL := Lib.hid HN9.out.1.1
                  clear HN9
                  go_wp2
                  go_ret
                  exact ⟨rfl, HBL.out⟩
          · have w3i : ¬ ((j : Int) = (len2 : Int)) := by omega
            have HI0 : Hid (SmI ps qs SM 0 false) := Lib.hid (.inl ⟨rfl, by rw [HSM.out]; exact smA_false fun h => w3e (by rw [← HP1.out, ← HP2.out, h.2.2])⟩)
            clear w3e
            clear HSM
            go_wp2_with fail
            rw [← hg]
            clear hg y0 y1 y2 z0 z1 z2 hy4 hz4
            go_loopw [10, 9] (fun i sv wr => ∃ (j2 : Nat) (B : Bool), j2 ≤ j ∧ i = .int .i64 (j2 : Int) ∧ sv = .bool B ∧ Hid (SmI ps qs SM j2 B) ∧ Hid (AnS w #[.int .i64 (k : Int), .int .i64 (n : Int), .slice a1 j cap1] #[.int .i64 (k : Int), .int .i64 (n : Int), .slice a2 len2 cap2] wr ∧ Box wr g 35 #[.int .i64 (k : Int), .int .i64 (n : Int), .slice a j c] ∧ SRow wr a ps)) (fun i _ _ => j + 1 - (intOf i).toNat)
            case atStart => exact ⟨0, false, Nat.zero_le _, rfl, by first | rfl | (congr 1; rw [beq_eq_false_iff_ne]; first | exact w3i | omega), HI0, H5⟩
            case round =>
              obtain ⟨j2, B, hj2, rfl, rfl, HI, HN⟩ := hrel
              clear H5 HI0
              cases B with
              | false =>
                have HX : Hid (SM = false) := Lib.hid (by rcases HI.out with h | h; exact h.2; cases h.1)
                clear HI
                have HSMV : Hid (SM = false) := HX
                have HS1 : Hid (∀ W, SRow W a1 ps → SRow W a ps → Calls Try.prog 15 #[.agg #[.int .i64 (k : Int), .int .i64 (n : Int), .slice a j c], .agg #[.int .i64 (k : Int), .int .i64 (n : Int), .slice a1 j cap1]] W fun r w' => r = .returned (.bool true) ∧ Below W.heap.size W w') := Lib.hid fun W h h' => by
                  have := wsame_any (w := W) (k : Int) (n : Int) (k : Int) (n : Int) (cap1 := c) (cap2 := cap1) h' HP1.out h HP1.out (by omega) (by omega)
                  rwa [smA_true ⟨rfl, rfl, rfl⟩] at this
                have HS2 : Hid (∀ W, SRow W a1 ps → SRow W a2 qs → Calls Try.prog 15 #[.agg #[.int .i64 (k : Int), .int .i64 (n : Int), .slice a1 j cap1], .agg #[.int .i64 (k : Int), .int .i64 (n : Int), .slice a2 len2 cap2]] W fun r w' => r = .returned (.bool false) ∧ Below W.heap.size W w') := Lib.hid fun W h h' => by
                  have := HSB.out W h h'
                  rwa [HSMV.out] at this
                clear HSB
                obtain ⟨y0, y1, y2⟩ := Box.three HN.out.1.2.1
                go_wp2_with fail
                refine (wfail_any _ _).mono ?_
                rintro r w6 ⟨rfl, hb6⟩
                have HN7 : Hid (AnS w #[.int .i64 (k : Int), .int .i64 (n : Int), .slice a1 j cap1] #[.int .i64 (k : Int), .int .i64 (n : Int), .slice a2 len2 cap2] (w6.alloc (.cells #[.int .i64 (k : Int), .int .i64 0, .slice none 0 0] 35)) ∧ Box (w6.alloc (.cells #[.int .i64 (k : Int), .int .i64 0, .slice none 0 0] 35)) g 35 #[.int .i64 (k : Int), .int .i64 (n : Int), .slice a j c] ∧ Box (w6.alloc (.cells #[.int .i64 (k : Int), .int .i64 0, .slice none 0 0] 35)) w6.heap.size 35 #[.int .i64 (k : Int), .int .i64 0, .slice none 0 0] ∧ SRow (w6.alloc (.cells #[.int .i64 (k : Int), .int .i64 0, .slice none 0 0] 35)) a ps) := Lib.hid (by
                  have h9 := hb6.trans (((Below.refl w6.heap.size w6).alloc (Nat.le_refl _) (.cells #[.int .i64 (k : Int), .int .i64 0, .slice none 0 0] 35)).mono hb6.size)
                  exact ⟨HN.out.1.low h9, (h9.block _ HN.out.2.1.lt).trans HN.out.2.1, Box.new w6 _ _, HN.out.2.2.below h9⟩)
                have HN6 : Hid (AnS w #[.int .i64 (k : Int), .int .i64 (n : Int), .slice a1 j cap1] #[.int .i64 (k : Int), .int .i64 (n : Int), .slice a2 len2 cap2] w6 ∧ Box w6 g 35 #[.int .i64 (k : Int), .int .i64 (n : Int), .slice a j c]) := Lib.hid ⟨HN.out.1.low hb6, (hb6.block _ HN.out.2.1.lt).trans HN.out.2.1⟩
                obtain ⟨gf, hgf⟩ : ∃ gf, gf = w6.heap.size := ⟨_, rfl⟩
                rw [← hgf] at HN7
                clear hb6 HN y0 y1 y2
                obtain ⟨y0, y1, y2⟩ := Box.three HN6.out.1.2.1
                obtain ⟨x0, x1, x2⟩ := Box.three HN6.out.2
                have hg6 := HN6.out.2.lt
                have hy6 := HN6.out.1.2.1.lt
                clear HN6
                go_wp2_with fail
                rw [← hgf]
                clear hgf hg6 hy6
                refine (HS1.out _ (HR1.out.below HN7.out.1.1) HN7.out.2.2.2).mono ?_
                rintro r w8 ⟨rfl, hb8⟩
                have HN8 : Hid (AnS w #[.int .i64 (k : Int), .int .i64 (n : Int), .slice a1 j cap1] #[.int .i64 (k : Int), .int .i64 (n : Int), .slice a2 len2 cap2] w8 ∧ Box w8 gf 35 #[.int .i64 (k : Int), .int .i64 0, .slice none 0 0]) := Lib.hid ⟨HN7.out.1.low hb8, (hb8.block _ HN7.out.2.2.1.lt).trans HN7.out.2.2.1⟩
                clear hb8 HN7 HS1 y0 y1 y2 x0 x1 x2
                obtain ⟨y0, y1, y2⟩ := Box.three HN8.out.1.2.1
                obtain ⟨z0, z1, z2⟩ := Box.three HN8.out.1.2.2
                go_wp2_with fail
                refine (HS2.out _ (HR1.out.below HN8.out.1.1) (HR2.out.below HN8.out.1.1)).mono ?_
                rintro r w9 ⟨rfl, hb9⟩
                have HN9 : Hid (AnS w #[.int .i64 (k : Int), .int .i64 (n : Int), .slice a1 j cap1] #[.int .i64 (k : Int), .int .i64 (n : Int), .slice a2 len2 cap2] w9 ∧ Box w9 gf 35 #[.int .i64 (k : Int), .int .i64 0, .slice none 0 0]) := Lib.hid ⟨HN8.out.1.low hb9, (hb9.block _ HN8.out.2.lt).trans HN8.out.2⟩
                clear hb9 HN8 HS2 y0 y1 y2 z0 z1 z2
                obtain ⟨y0, y1, y2⟩ := Box.three HN9.out.1.2.1
                obtain ⟨x0, x1, x2⟩ := Box.three HN9.out.2
                have HBL := Lib.hid HN9.out.1.1
                clear HN9
                go_wp2
                go_ret
                exact ⟨rfl, HBL.out⟩
              | true =>
                by_cases hlt2 : j2 < j
                · have hlt2I : (j2 : Int) < (j : Int) := by omega
                  have hp2 : j2 < ps.length := by rw [HP1.out]; exact hlt2
                  have HF : Hid ((SM = true ↔ ps = qs) ∧ ps.length = qs.length ∧ ∀ i (h : i < ps.length) (h' : i < qs.length), i < j2 → ps[i] = qs[i]) := Lib.hid (by rcases HI.out with h | h; cases h.1; exact h.2)
                  have hq2 : j2 < qs.length := by rw [← HF.out.2.1]; exact hp2
                  have hl2I : (j2 : Int) < (len2 : Int) := by have := HP2.out; omega
                  obtain ⟨b1, o1, rfl, g1, c1⟩ := srow_at (HR1.out.below HN.out.1.1) j2 hp2
                  obtain ⟨b2, o2, rfl, g2, c2⟩ := srow_at (HR2.out.below HN.out.1.1) j2 hq2
                  obtain ⟨y0, y1, y2⟩ := Box.three HN.out.1.2.1
                  obtain ⟨z0, z1, z2⟩ := Box.three HN.out.1.2.2
                  have HND := Lib.hid (show AnS w _ _ wr.drew ∧ Box wr.drew g 35 _ ∧ SRow wr.drew a ps from ⟨HN.out.1.low (Below.refl _ _).drew, HN.out.2.1, HN.out.2.2.below (Below.refl _ _).drew⟩)
                  by_cases he : ps[j2] = qs[j2]
                  · have HI2 : Hid (SmI ps qs SM (j2 + 1) true) := Lib.hid (.inr ⟨rfl, HF.out.1, HF.out.2.1, fun i h h' hi => by
                      by_cases e : i = j2
                      · subst e; exact he
                      · exact HF.out.2.2 i h h' (by omega)⟩)
                    obtain ⟨x, hx⟩ : ∃ x, x = ps[j2] := ⟨_, rfl⟩
                    rw [← he, ← hx] at c2
                    rw [← hx] at c1
                    have hxx : (x.toList == x.toList) = true := by simp
                    clear hx he HN HI HF
                    go_wp2_with fail
                    refine wp_region_still_lit (by rfl) (by kernel_rfl) ?_
                    change wpStill _ _ (World.drew _) (fun a' => _) _ _
                    repeat still_step
                    refine wpStill_nil ?_
                    go_wp2_with fail
                    go_roundw
                    case rel => exact ⟨j2 + 1, true, by omega, by go_num, rfl, HI2, HND⟩
                    case measure => simp [intOf]; omega
                  · have HI2 : Hid (SmI ps qs SM (j2 + 1) false) := Lib.hid (.inl ⟨rfl, by
                      cases hsm : SM with
                      | false => rfl
                      | true => exact absurd (by have := HF.out.1.1 hsm; subst this; rfl) he⟩)
                    have hxx : (ps[j2].toList == qs[j2].toList) = false := by
                      rw [beq_eq_false_iff_ne]
                      exact fun h => he (blA_inj h)
                    obtain ⟨x, hx⟩ : ∃ x, x = ps[j2] := ⟨_, rfl⟩
                    obtain ⟨y, hy⟩ : ∃ y, y = qs[j2] := ⟨_, rfl⟩
                    rw [← hx] at c1 hxx
                    rw [← hy] at c2 hxx
                    clear hx hy he HN HI HF
                    go_wp2_with fail
                    refine wp_region_still_lit (by rfl) (by kernel_rfl) ?_
                    change wpStill _ _ (World.drew _) (fun a' => _) _ _
                    repeat still_step
                    refine wpStill_nil ?_
                    go_wp2_with fail
                    go_roundw
                    case rel => exact ⟨j2 + 1, false, by omega, by go_num, rfl, HI2, HND⟩
                    case measure => simp [intOf]; omega
                · obtain rfl : j = j2 := by omega
                  have hge2 : ¬ ((j : Int) < (j : Int)) := by omega
                  have HX : Hid (SM = true) := Lib.hid (by
                    rcases HI.out with h | h
                    · cases h.1
                    · exact h.2.1.2 (List.ext_getElem h.2.2.1 fun i h1 h2 => h.2.2.2 i h1 h2 (by rw [← HP1.out]; exact h1)))
                  clear HI
                  have HSMV : Hid (SM = true) := HX
                  have HS1 : Hid (∀ W, SRow W a1 ps → SRow W a ps → Calls Try.prog 15 #[.agg #[.int .i64 (k : Int), .int .i64 (n : Int), .slice a j c], .agg #[.int .i64 (k : Int), .int .i64 (n : Int), .slice a1 j cap1]] W fun r w' => r = .returned (.bool true) ∧ Below W.heap.size W w') := Lib.hid fun W h h' => by
                    have := wsame_any (w := W) (k : Int) (n : Int) (k : Int) (n : Int) (cap1 := c) (cap2 := cap1) h' HP1.out h HP1.out (by omega) (by omega)
                    rwa [smA_true ⟨rfl, rfl, rfl⟩] at this
                  have HS2 : Hid (∀ W, SRow W a1 ps → SRow W a2 qs → Calls Try.prog 15 #[.agg #[.int .i64 (k : Int), .int .i64 (n : Int), .slice a1 j cap1], .agg #[.int .i64 (k : Int), .int .i64 (n : Int), .slice a2 len2 cap2]] W fun r w' => r = .returned (.bool true) ∧ Below W.heap.size W w') := Lib.hid fun W h h' => by
                    have := HSB.out W h h'
                    rwa [HSMV.out] at this
                  clear HSB
                  obtain ⟨y0, y1, y2⟩ := Box.three HN.out.1.2.1
                  go_wp2_with fail
                  refine (wfail_any _ _).mono ?_
                  rintro r w6 ⟨rfl, hb6⟩
                  have HN7 : Hid (AnS w #[.int .i64 (k : Int), .int .i64 (n : Int), .slice a1 j cap1] #[.int .i64 (k : Int), .int .i64 (n : Int), .slice a2 len2 cap2] (w6.alloc (.cells #[.int .i64 (k : Int), .int .i64 0, .slice none 0 0] 35)) ∧ Box (w6.alloc (.cells #[.int .i64 (k : Int), .int .i64 0, .slice none 0 0] 35)) g 35 #[.int .i64 (k : Int), .int .i64 (n : Int), .slice a j c] ∧ Box (w6.alloc (.cells #[.int .i64 (k : Int), .int .i64 0, .slice none 0 0] 35)) w6.heap.size 35 #[.int .i64 (k : Int), .int .i64 0, .slice none 0 0] ∧ SRow (w6.alloc (.cells #[.int .i64 (k : Int), .int .i64 0, .slice none 0 0] 35)) a ps) := Lib.hid (by
                    have h9 := hb6.trans (((Below.refl w6.heap.size w6).alloc (Nat.le_refl _) (.cells #[.int .i64 (k : Int), .int .i64 0, .slice none 0 0] 35)).mono hb6.size)
                    exact ⟨HN.out.1.low h9, (h9.block _ HN.out.2.1.lt).trans HN.out.2.1, Box.new w6 _ _, HN.out.2.2.below h9⟩)
                  have HN6 : Hid (AnS w #[.int .i64 (k : Int), .int .i64 (n : Int), .slice a1 j cap1] #[.int .i64 (k : Int), .int .i64 (n : Int), .slice a2 len2 cap2] w6 ∧ Box w6 g 35 #[.int .i64 (k : Int), .int .i64 (n : Int), .slice a j c]) := Lib.hid ⟨HN.out.1.low hb6, (hb6.block _ HN.out.2.1.lt).trans HN.out.2.1⟩
                  obtain ⟨gf, hgf⟩ : ∃ gf, gf = w6.heap.size := ⟨_, rfl⟩
                  rw [← hgf] at HN7
                  clear hb6 HN y0 y1 y2
                  obtain ⟨y0, y1, y2⟩ := Box.three HN6.out.1.2.1
                  obtain ⟨x0, x1, x2⟩ := Box.three HN6.out.2
                  have hg6 := HN6.out.2.lt
                  have hy6 := HN6.out.1.2.1.lt
                  clear HN6
                  go_wp2_with fail
                  rw [← hgf]
                  clear hgf hg6 hy6
                  refine (HS1.out _ (HR1.out.below HN7.out.1.1) HN7.out.2.2.2).mono ?_
                  rintro r w8 ⟨rfl, hb8⟩
                  have HN8 : Hid (AnS w #[.int .i64 (k : Int), .int .i64 (n : Int), .slice a1 j cap1] #[.int .i64 (k : Int), .int .i64 (n : Int), .slice a2 len2 cap2] w8 ∧ Box w8 gf 35 #[.int .i64 (k : Int), .int .i64 0, .slice none 0 0]) := Lib.hid ⟨HN7.out.1.low hb8, (hb8.block _ HN7.out.2.2.1.lt).trans HN7.out.2.2.1⟩
                  clear hb8 HN7 HS1 y0 y1 y2 x0 x1 x2
                  obtain ⟨y0, y1, y2⟩ := Box.three HN8.out.1.2.1
                  obtain ⟨z0, z1, z2⟩ := Box.three HN8.out.1.2.2
                  go_wp2_with fail
                  refine (HS2.out _ (HR1.out.below HN8.out.1.1) (HR2.out.below HN8.out.1.1)).mono ?_
                  rintro r w9 ⟨rfl, hb9⟩
                  have HN9 : Hid (AnS w #[.int .i64 (k : Int), .int .i64 (n : Int), .slice a1 j cap1] #[.int .i64 (k : Int), .int .i64 (n : Int), .slice a2 len2 cap2] w9 ∧ Box w9 gf 35 #[.int .i64 (k : Int), .int .i64 0, .slice none 0 0]) := Lib.hid ⟨HN8.out.1.low hb9, (hb9.block _ HN8.out.2.lt).trans HN8.out.2⟩
                  clear hb9 HN8 HS2 y0 y1 y2 z0 z1 z2
                  obtain ⟨y0, y1, y2⟩ := Box.three HN9.out.1.2.1
                  obtain ⟨x0, x1, x2⟩ := Box.three HN9.out.2
                  have HBL := Lib.hid HN9.out.1.1
                  clear HN9
                  go_wp2
                  go_ret
                  exact ⟨rfl, HBL.out⟩
        · have HI0 : Hid (SmI ps qs SM 0 false) := Lib.hid (.inl ⟨rfl, by rw [HSM.out]; exact smA_false fun h => w2e h.2.1⟩)
          clear HSM
          go_wp2_with fail
          rw [← hg]
          clear hg y0 y1 y2 z0 z1 z2 hy4 hz4
          go_loopw [10, 9] (fun i sv wr => ∃ (j2 : Nat) (B : Bool), j2 ≤ j ∧ i = .int .i64 (j2 : Int) ∧ sv = .bool B ∧ Hid (SmI ps qs SM j2 B) ∧ Hid (AnS w #[.int .i64 (k : Int), .int .i64 (n : Int), .slice a1 j cap1] #[.int .i64 (k : Int), .int .i64 n2, .slice a2 len2 cap2] wr ∧ Box wr g 35 #[.int .i64 (k : Int), .int .i64 (n : Int), .slice a j c] ∧ SRow wr a ps)) (fun i _ _ => j + 1 - (intOf i).toNat)
          case atStart => exact ⟨0, false, Nat.zero_le _, rfl, by first | rfl | (congr 1; rw [beq_eq_false_iff_ne]; first | exact w3i | omega), HI0, H5⟩
          case round =>
            obtain ⟨j2, B, hj2, rfl, rfl, HI, HN⟩ := hrel
            clear H5 HI0
            cases B with
            | false =>
              have HX : Hid (SM = false) := Lib.hid (by rcases HI.out with h | h; exact h.2; cases h.1)
              clear HI
              have HSMV : Hid (SM = false) := HX
              have HS1 : Hid (∀ W, SRow W a1 ps → SRow W a ps → Calls Try.prog 15 #[.agg #[.int .i64 (k : Int), .int .i64 (n : Int), .slice a j c], .agg #[.int .i64 (k : Int), .int .i64 (n : Int), .slice a1 j cap1]] W fun r w' => r = .returned (.bool true) ∧ Below W.heap.size W w') := Lib.hid fun W h h' => by
                have := wsame_any (w := W) (k : Int) (n : Int) (k : Int) (n : Int) (cap1 := c) (cap2 := cap1) h' HP1.out h HP1.out (by omega) (by omega)
                rwa [smA_true ⟨rfl, rfl, rfl⟩] at this
              have HS2 : Hid (∀ W, SRow W a1 ps → SRow W a2 qs → Calls Try.prog 15 #[.agg #[.int .i64 (k : Int), .int .i64 (n : Int), .slice a1 j cap1], .agg #[.int .i64 (k : Int), .int .i64 n2, .slice a2 len2 cap2]] W fun r w' => r = .returned (.bool false) ∧ Below W.heap.size W w') := Lib.hid fun W h h' => by
                have := HSB.out W h h'
                rwa [HSMV.out] at this
              clear HSB
              obtain ⟨y0, y1, y2⟩ := Box.three HN.out.1.2.1
              go_wp2_with fail
              refine (wfail_any _ _).mono ?_
              rintro r w6 ⟨rfl, hb6⟩
              have HN7 : Hid (AnS w #[.int .i64 (k : Int), .int .i64 (n : Int), .slice a1 j cap1] #[.int .i64 (k : Int), .int .i64 n2, .slice a2 len2 cap2] (w6.alloc (.cells #[.int .i64 (k : Int), .int .i64 0, .slice none 0 0] 35)) ∧ Box (w6.alloc (.cells #[.int .i64 (k : Int), .int .i64 0, .slice none 0 0] 35)) g 35 #[.int .i64 (k : Int), .int .i64 (n : Int), .slice a j c] ∧ Box (w6.alloc (.cells #[.int .i64 (k : Int), .int .i64 0, .slice none 0 0] 35)) w6.heap.size 35 #[.int .i64 (k : Int), .int .i64 0, .slice none 0 0] ∧ SRow (w6.alloc (.cells #[.int .i64 (k : Int), .int .i64 0, .slice none 0 0] 35)) a ps) := Lib.hid (by
                have h9 := hb6.trans (((Below.refl w6.heap.size w6).alloc (Nat.le_refl _) (.cells #[.int .i64 (k : Int), .int .i64 0, .slice none 0 0] 35)).mono hb6.size)
                exact ⟨HN.out.1.low h9, (h9.block _ HN.out.2.1.lt).trans HN.out.2.1, Box.new w6 _ _, HN.out.2.2.below h9⟩)
              have HN6 : Hid (AnS w #[.int .i64 (k : Int), .int .i64 (n : Int), .slice a1 j cap1] #[.int .i64 (k : Int), .int .i64 n2, .slice a2 len2 cap2] w6 ∧ Box w6 g 35 #[.int .i64 (k : Int), .int .i64 (n : Int), .slice a j c]) := Lib.hid ⟨HN.out.1.low hb6, (hb6.block _ HN.out.2.1.lt).trans HN.out.2.1⟩
              obtain ⟨gf, hgf⟩ : ∃ gf, gf = w6.heap.size := ⟨_, rfl⟩
              rw [← hgf] at HN7
              clear hb6 HN y0 y1 y2
              obtain ⟨y0, y1, y2⟩ := Box.three HN6.out.1.2.1
              obtain ⟨x0, x1, x2⟩ := Box.three HN6.out.2
              have hg6 := HN6.out.2.lt
              have hy6 := HN6.out.1.2.1.lt
              clear HN6
              go_wp2_with fail
              rw [← hgf]
              clear hgf hg6 hy6
              refine (HS1.out _ (HR1.out.below HN7.out.1.1) HN7.out.2.2.2).mono ?_
              rintro r w8 ⟨rfl, hb8⟩
              have HN8 : Hid (AnS w #[.int .i64 (k : Int), .int .i64 (n : Int), .slice a1 j cap1] #[.int .i64 (k : Int), .int .i64 n2, .slice a2 len2 cap2] w8 ∧ Box w8 gf 35 #[.int .i64 (k : Int), .int .i64 0, .slice none 0 0]) := Lib.hid ⟨HN7.out.1.low hb8, (hb8.block _ HN7.out.2.2.1.lt).trans HN7.out.2.2.1⟩
              clear hb8 HN7 HS1 y0 y1 y2 x0 x1 x2
              obtain ⟨y0, y1, y2⟩ := Box.three HN8.out.1.2.1
              obtain ⟨z0, z1, z2⟩ := Box.three HN8.out.1.2.2
              go_wp2_with fail
              refine (HS2.out _ (HR1.out.below HN8.out.1.1) (HR2.out.below HN8.out.1.1)).mono ?_
              rintro r w9 ⟨rfl, hb9⟩
              have HN9 : Hid (AnS w #[.int .i64 (k : Int), .int .i64 (n : Int), .slice a1 j cap1] #[.int .i64 (k : Int), .int .i64 n2, .slice a2 len2 cap2] w9 ∧ Box w9 gf 35 #[.int .i64 (k : Int), .int .i64 0, .slice none 0 0]) := Lib.hid ⟨HN8.out.1.low hb9, (hb9.block _ HN8.out.2.lt).trans HN8.out.2⟩
              clear hb9 HN8 HS2 y0 y1 y2 z0 z1 z2
              obtain ⟨y0, y1, y2⟩ := Box.three HN9.out.1.2.1
              obtain ⟨x0, x1, x2⟩ := Box.three HN9.out.2
              have HBL := Lib.hid HN9.out.1.1
              clear HN9
              go_wp2
              go_ret
              exact ⟨rfl, HBL.out⟩
            | true =>
              by_cases hlt2 : j2 < j
              · have hlt2I : (j2 : Int) < (j : Int) := by omega
                have hp2 : j2 < ps.length := by rw [HP1.out]; exact hlt2
                have HF : Hid ((SM = true ↔ ps = qs) ∧ ps.length = qs.length ∧ ∀ i (h : i < ps.length) (h' : i < qs.length), i < j2 → ps[i] = qs[i]) := Lib.hid (by rcases HI.out with h | h; cases h.1; exact h.2)
                have hq2 : j2 < qs.length := by rw [← HF.out.2.1]; exact hp2
                have hl2I : (j2 : Int) < (len2 : Int) := by have := HP2.out; omega
                obtain ⟨b1, o1, rfl, g1, c1⟩ := srow_at (HR1.out.below HN.out.1.1) j2 hp2
                obtain ⟨b2, o2, rfl, g2, c2⟩ := srow_at (HR2.out.below HN.out.1.1) j2 hq2
                obtain ⟨y0, y1, y2⟩ := Box.three HN.out.1.2.1
                obtain ⟨z0, z1, z2⟩ := Box.three HN.out.1.2.2
                have HND := Lib.hid (show AnS w _ _ wr.drew ∧ Box wr.drew g 35 _ ∧ SRow wr.drew a ps from ⟨HN.out.1.low (Below.refl _ _).drew, HN.out.2.1, HN.out.2.2.below (Below.refl _ _).drew⟩)
                by_cases he : ps[j2] = qs[j2]
                · have HI2 : Hid (SmI ps qs SM (j2 + 1) true) := Lib.hid (.inr ⟨rfl, HF.out.1, HF.out.2.1, fun i h h' hi => by
                    by_cases e : i = j2
                    · subst e; exact he
                    · exact HF.out.2.2 i h h' (by omega)⟩)
                  obtain ⟨x, hx⟩ : ∃ x, x = ps[j2] := ⟨_, rfl⟩
                  rw [← he, ← hx] at c2
                  rw [← hx] at c1
                  have hxx : (x.toList == x.toList) = true := by simp
                  clear hx he HN HI HF
                  go_wp2_with fail
                  refine wp_region_still_lit (by rfl) (by kernel_rfl) ?_
                  change wpStill _ _ (World.drew _) (fun a' => _) _ _
                  repeat still_step
                  refine wpStill_nil ?_
                  go_wp2_with fail
                  go_roundw
                  case rel => exact ⟨j2 + 1, true, by omega, by go_num, rfl, HI2, HND⟩
                  case measure => simp [intOf]; omega
                · have HI2 : Hid (SmI ps qs SM (j2 + 1) false) := Lib.hid (.inl ⟨rfl, by
                    cases hsm : SM with
                    | false => rfl
                    | true => exact absurd (by have := HF.out.1.1 hsm; subst this; rfl) he⟩)
                  have hxx : (ps[j2].toList == qs[j2].toList) = false := by
                    rw [beq_eq_false_iff_ne]
                    exact fun h => he (blA_inj h)
                  obtain ⟨x, hx⟩ : ∃ x, x = ps[j2] := ⟨_, rfl⟩
                  obtain ⟨y, hy⟩ : ∃ y, y = qs[j2] := ⟨_, rfl⟩
                  rw [← hx] at c1 hxx
                  rw [← hy] at c2 hxx
                  clear hx hy he HN HI HF
                  go_wp2_with fail
                  refine wp_region_still_lit (by rfl) (by kernel_rfl) ?_
                  change wpStill _ _ (World.drew _) (fun a' => _) _ _
                  repeat still_step
                  refine wpStill_nil ?_
                  go_wp2_with fail
                  go_roundw
                  case rel => exact ⟨j2 + 1, false, by omega, by go_num, rfl, HI2, HND⟩
                  case measure => simp [intOf]; omega
              · obtain rfl : j = j2 := by omega
                have hge2 : ¬ ((j : Int) < (j : Int)) := by omega
                have HX : Hid (SM = true) := Lib.hid (by
                  rcases HI.out with h | h
                  · cases h.1
                  · exact h.2.1.2 (List.ext_getElem h.2.2.1 fun i h1 h2 => h.2.2.2 i h1 h2 (by rw [← HP1.out]; exact h1)))
                clear HI
                have HSMV : Hid (SM = true) := HX
                have HS1 : Hid (∀ W, SRow W a1 ps → SRow W a ps → Calls Try.prog 15 #[.agg #[.int .i64 (k : Int), .int .i64 (n : Int), .slice a j c], .agg #[.int .i64 (k : Int), .int .i64 (n : Int), .slice a1 j cap1]] W fun r w' => r = .returned (.bool true) ∧ Below W.heap.size W w') := Lib.hid fun W h h' => by
                  have := wsame_any (w := W) (k : Int) (n : Int) (k : Int) (n : Int) (cap1 := c) (cap2 := cap1) h' HP1.out h HP1.out (by omega) (by omega)
                  rwa [smA_true ⟨rfl, rfl, rfl⟩] at this
                have HS2 : Hid (∀ W, SRow W a1 ps → SRow W a2 qs → Calls Try.prog 15 #[.agg #[.int .i64 (k : Int), .int .i64 (n : Int), .slice a1 j cap1], .agg #[.int .i64 (k : Int), .int .i64 n2, .slice a2 len2 cap2]] W fun r w' => r = .returned (.bool true) ∧ Below W.heap.size W w') := Lib.hid fun W h h' => by
                  have := HSB.out W h h'
                  rwa [HSMV.out] at this
                clear HSB
                obtain ⟨y0, y1, y2⟩ := Box.three HN.out.1.2.1
                go_wp2_with fail
                refine (wfail_any _ _).mono ?_
                rintro r w6 ⟨rfl, hb6⟩
                have HN7 : Hid (AnS w #[.int .i64 (k : Int), .int .i64 (n : Int), .slice a1 j cap1] #[.int .i64 (k : Int), .int .i64 n2, .slice a2 len2 cap2] (w6.alloc (.cells #[.int .i64 (k : Int), .int .i64 0, .slice none 0 0] 35)) ∧ Box (w6.alloc (.cells #[.int .i64 (k : Int), .int .i64 0, .slice none 0 0] 35)) g 35 #[.int .i64 (k : Int), .int .i64 (n : Int), .slice a j c] ∧ Box (w6.alloc (.cells #[.int .i64 (k : Int), .int .i64 0, .slice none 0 0] 35)) w6.heap.size 35 #[.int .i64 (k : Int), .int .i64 0, .slice none 0 0] ∧ SRow (w6.alloc (.cells #[.int .i64 (k : Int), .int .i64 0, .slice none 0 0] 35)) a ps) := Lib.hid (by
                  have h9 := hb6.trans (((Below.refl w6.heap.size w6).alloc (Nat.le_refl _) (.cells #[.int .i64 (k : Int), .int .i64 0, .slice none 0 0] 35)).mono hb6.size)
                  exact ⟨HN.out.1.low h9, (h9.block _ HN.out.2.1.lt).trans HN.out.2.1, Box.new w6 _ _, HN.out.2.2.below h9⟩)
                have HN6 : Hid (AnS w #[.int .i64 (k : Int), .int .i64 (n : Int), .slice a1 j cap1] #[.int .i64 (k : Int), .int .i64 n2, .slice a2 len2 cap2] w6 ∧ Box w6 g 35 #[.int .i64 (k : Int), .int .i64 (n : Int), .slice a j c]) := Lib.hid ⟨HN.out.1.low hb6, (hb6.block _ HN.out.2.1.lt).trans HN.out.2.1⟩
                obtain ⟨gf, hgf⟩ : ∃ gf, gf = w6.heap.size := ⟨_, rfl⟩
                rw [← hgf] at HN7
                clear hb6 HN y0 y1 y2
                obtain ⟨y0, y1, y2⟩ := Box.three HN6.out.1.2.1
                obtain ⟨x0, x1, x2⟩ := Box.three HN6.out.2
                have hg6 := HN6.out.2.lt
                have hy6 := HN6.out.1.2.1.lt
                clear HN6
                go_wp2_with fail
                rw [← hgf]
                clear hgf hg6 hy6
                refine (HS1.out _ (HR1.out.below HN7.out.1.1) HN7.out.2.2.2).mono ?_
                rintro r w8 ⟨rfl, hb8⟩
                have HN8 : Hid (AnS w #[.int .i64 (k : Int), .int .i64 (n : Int), .slice a1 j cap1] #[.int .i64 (k : Int), .int .i64 n2, .slice a2 len2 cap2] w8 ∧ Box w8 gf 35 #[.int .i64 (k : Int), .int .i64 0, .slice none 0 0]) := Lib.hid ⟨HN7.out.1.low hb8, (hb8.block _ HN7.out.2.2.1.lt).trans HN7.out.2.2.1⟩
                clear hb8 HN7 HS1 y0 y1 y2 x0 x1 x2
                obtain ⟨y0, y1, y2⟩ := Box.three HN8.out.1.2.1
                obtain ⟨z0, z1, z2⟩ := Box.three HN8.out.1.2.2
                go_wp2_with fail
                refine (HS2.out _ (HR1.out.below HN8.out.1.1) (HR2.out.below HN8.out.1.1)).mono ?_
                rintro r w9 ⟨rfl, hb9⟩
                have HN9 : Hid (AnS w #[.int .i64 (k : Int), .int .i64 (n : Int), .slice a1 j cap1] #[.int .i64 (k : Int), .int .i64 n2, .slice a2 len2 cap2] w9 ∧ Box w9 gf 35 #[.int .i64 (k : Int), .int .i64 0, .slice none 0 0]) := Lib.hid ⟨HN8.out.1.low hb9, (hb9.block _ HN8.out.2.lt).trans HN8.out.2⟩
                clear hb9 HN8 HS2 y0 y1 y2 z0 z1 z2
                obtain ⟨y0, y1, y2⟩ := Box.three HN9.out.1.2.1
                obtain ⟨x0, x1, x2⟩ := Box.three HN9.out.2
                have HBL := Lib.hid HN9.out.1.1
                clear HN9
                go_wp2
                go_ret
                exact ⟨rfl, HBL.out⟩
      · have HI0 : Hid (SmI ps qs SM 0 false) := Lib.hid (.inl ⟨rfl, by rw [HSM.out]; exact smA_false fun h => w1e h.1⟩)
        clear HSM
        go_wp2_with fail
        rw [← hg]
        clear hg y0 y1 y2 z0 z1 z2 hy4 hz4
        go_loopw [10, 9] (fun i sv wr => ∃ (j2 : Nat) (B : Bool), j2 ≤ j ∧ i = .int .i64 (j2 : Int) ∧ sv = .bool B ∧ Hid (SmI ps qs SM j2 B) ∧ Hid (AnS w #[.int .i64 (k : Int), .int .i64 (n : Int), .slice a1 j cap1] #[.int .i64 e2, .int .i64 n2, .slice a2 len2 cap2] wr ∧ Box wr g 35 #[.int .i64 (k : Int), .int .i64 (n : Int), .slice a j c] ∧ SRow wr a ps)) (fun i _ _ => j + 1 - (intOf i).toNat)
        case atStart => exact ⟨0, false, Nat.zero_le _, rfl, by first | rfl | (congr 1; rw [beq_eq_false_iff_ne]; first | exact w3i | omega), HI0, H5⟩
        case round =>
          obtain ⟨j2, B, hj2, rfl, rfl, HI, HN⟩ := hrel
          clear H5 HI0
          cases B with
          | false =>
            have HX : Hid (SM = false) := Lib.hid (by rcases HI.out with h | h; exact h.2; cases h.1)
            clear HI
            have HSMV : Hid (SM = false) := HX
            have HS1 : Hid (∀ W, SRow W a1 ps → SRow W a ps → Calls Try.prog 15 #[.agg #[.int .i64 (k : Int), .int .i64 (n : Int), .slice a j c], .agg #[.int .i64 (k : Int), .int .i64 (n : Int), .slice a1 j cap1]] W fun r w' => r = .returned (.bool true) ∧ Below W.heap.size W w') := Lib.hid fun W h h' => by
              have := wsame_any (w := W) (k : Int) (n : Int) (k : Int) (n : Int) (cap1 := c) (cap2 := cap1) h' HP1.out h HP1.out (by omega) (by omega)
              rwa [smA_true ⟨rfl, rfl, rfl⟩] at this
            have HS2 : Hid (∀ W, SRow W a1 ps → SRow W a2 qs → Calls Try.prog 15 #[.agg #[.int .i64 (k : Int), .int .i64 (n : Int), .slice a1 j cap1], .agg #[.int .i64 e2, .int .i64 n2, .slice a2 len2 cap2]] W fun r w' => r = .returned (.bool false) ∧ Below W.heap.size W w') := Lib.hid fun W h h' => by
              have := HSB.out W h h'
              rwa [HSMV.out] at this
            clear HSB
            obtain ⟨y0, y1, y2⟩ := Box.three HN.out.1.2.1
            go_wp2_with fail
            refine (wfail_any _ _).mono ?_
            rintro r w6 ⟨rfl, hb6⟩
            have HN7 : Hid (AnS w #[.int .i64 (k : Int), .int .i64 (n : Int), .slice a1 j cap1] #[.int .i64 e2, .int .i64 n2, .slice a2 len2 cap2] (w6.alloc (.cells #[.int .i64 (k : Int), .int .i64 0, .slice none 0 0] 35)) ∧ Box (w6.alloc (.cells #[.int .i64 (k : Int), .int .i64 0, .slice none 0 0] 35)) g 35 #[.int .i64 (k : Int), .int .i64 (n : Int), .slice a j c] ∧ Box (w6.alloc (.cells #[.int .i64 (k : Int), .int .i64 0, .slice none 0 0] 35)) w6.heap.size 35 #[.int .i64 (k : Int), .int .i64 0, .slice none 0 0] ∧ SRow (w6.alloc (.cells #[.int .i64 (k : Int), .int .i64 0, .slice none 0 0] 35)) a ps) := Lib.hid (by
              have h9 := hb6.trans (((Below.refl w6.heap.size w6).alloc (Nat.le_refl _) (.cells #[.int .i64 (k : Int), .int .i64 0, .slice none 0 0] 35)).mono hb6.size)
              exact ⟨HN.out.1.low h9, (h9.block _ HN.out.2.1.lt).trans HN.out.2.1, Box.new w6 _ _, HN.out.2.2.below h9⟩)
            have HN6 : Hid (AnS w #[.int .i64 (k : Int), .int .i64 (n : Int), .slice a1 j cap1] #[.int .i64 e2, .int .i64 n2, .slice a2 len2 cap2] w6 ∧ Box w6 g 35 #[.int .i64 (k : Int), .int .i64 (n : Int), .slice a j c]) := Lib.hid ⟨HN.out.1.low hb6, (hb6.block _ HN.out.2.1.lt).trans HN.out.2.1⟩
            obtain ⟨gf, hgf⟩ : ∃ gf, gf = w6.heap.size := ⟨_, rfl⟩
            rw [← hgf] at HN7
            clear hb6 HN y0 y1 y2
            obtain ⟨y0, y1, y2⟩ := Box.three HN6.out.1.2.1
            obtain ⟨x0, x1, x2⟩ := Box.three HN6.out.2
            have hg6 := HN6.out.2.lt
            have hy6 := HN6.out.1.2.1.lt
            clear HN6
            go_wp2_with fail
            rw [← hgf]
            clear hgf hg6 hy6
            refine (HS1.out _ (HR1.out.below HN7.out.1.1) HN7.out.2.2.2).mono ?_
            rintro r w8 ⟨rfl, hb8⟩
            have HN8 : Hid (AnS w #[.int .i64 (k : Int), .int .i64 (n : Int), .slice a1 j cap1] #[.int .i64 e2, .int .i64 n2, .slice a2 len2 cap2] w8 ∧ Box w8 gf 35 #[.int .i64 (k : Int), .int .i64 0, .slice none 0 0]) := Lib.hid ⟨HN7.out.1.low hb8, (hb8.block _ HN7.out.2.2.1.lt).trans HN7.out.2.2.1⟩
            clear hb8 HN7 HS1 y0 y1 y2 x0 x1 x2
            obtain ⟨y0, y1, y2⟩ := Box.three HN8.out.1.2.1
            obtain ⟨z0, z1, z2⟩ := Box.three HN8.out.1.2.2
            go_wp2_with fail
            refine (HS2.out _ (HR1.out.below HN8.out.1.1) (HR2.out.below HN8.out.1.1)).mono ?_
            rintro r w9 ⟨rfl, hb9⟩
            have HN9 : Hid (AnS w #[.int .i64 (k : Int), .int .i64 (n : Int), .slice a1 j cap1] #[.int .i64 e2, .int .i64 n2, .slice a2 len2 cap2] w9 ∧ Box w9 gf 35 #[.int .i64 (k : Int), .int .i64 0, .slice none 0 0]) := Lib.hid ⟨HN8.out.1.low hb9, (hb9.block _ HN8.out.2.lt).trans HN8.out.2⟩
            clear hb9 HN8 HS2 y0 y1 y2 z0 z1 z2
            obtain ⟨y0, y1, y2⟩ := Box.three HN9.out.1.2.1
            obtain ⟨x0, x1, x2⟩ := Box.three HN9.out.2
            have HBL := Lib.hid HN9.out.1.1
            clear HN9
            go_wp2
            go_ret
            exact ⟨rfl, HBL.out⟩
          | true =>
            by_cases hlt2 : j2 < j
            · have hlt2I : (j2 : Int) < (j : Int) := by omega
              have hp2 : j2 < ps.length := by rw [HP1.out]; exact hlt2
              have HF : Hid ((SM = true ↔ ps = qs) ∧ ps.length = qs.length ∧ ∀ i (h : i < ps.length) (h' : i < qs.length), i < j2 → ps[i] = qs[i]) := Lib.hid (by rcases HI.out with h | h; cases h.1; exact h.2)
              have hq2 : j2 < qs.length := by rw [← HF.out.2.1]; exact hp2
              have hl2I : (j2 : Int) < (len2 : Int) := by have := HP2.out; omega
              obtain ⟨b1, o1, rfl, g1, c1⟩ := srow_at (HR1.out.below HN.out.1.1) j2 hp2
              obtain ⟨b2, o2, rfl, g2, c2⟩ := srow_at (HR2.out.below HN.out.1.1) j2 hq2
              obtain ⟨y0, y1, y2⟩ := Box.three HN.out.1.2.1
              obtain ⟨z0, z1, z2⟩ := Box.three HN.out.1.2.2
              have HND := Lib.hid (show AnS w _ _ wr.drew ∧ Box wr.drew g 35 _ ∧ SRow wr.drew a ps from ⟨HN.out.1.low (Below.refl _ _).drew, HN.out.2.1, HN.out.2.2.below (Below.refl _ _).drew⟩)
              by_cases he : ps[j2] = qs[j2]
              · have HI2 : Hid (SmI ps qs SM (j2 + 1) true) := Lib.hid (.inr ⟨rfl, HF.out.1, HF.out.2.1, fun i h h' hi => by
                  by_cases e : i = j2
                  · subst e; exact he
                  · exact HF.out.2.2 i h h' (by omega)⟩)
                obtain ⟨x, hx⟩ : ∃ x, x = ps[j2] := ⟨_, rfl⟩
                rw [← he, ← hx] at c2
                rw [← hx] at c1
                have hxx : (x.toList == x.toList) = true := by simp
                clear hx he HN HI HF
                go_wp2_with fail
                refine wp_region_still_lit (by rfl) (by kernel_rfl) ?_
                change wpStill _ _ (World.drew _) (fun a' => _) _ _
                repeat still_step
                refine wpStill_nil ?_
                go_wp2_with fail
                go_roundw
                case rel => exact ⟨j2 + 1, true, by omega, by go_num, rfl, HI2, HND⟩
                case measure => simp [intOf]; omega
              · have HI2 : Hid (SmI ps qs SM (j2 + 1) false) := Lib.hid (.inl ⟨rfl, by
                  cases hsm : SM with
                  | false => rfl
                  | true => exact absurd (by have := HF.out.1.1 hsm; subst this; rfl) he⟩)
                have hxx : (ps[j2].toList == qs[j2].toList) = false := by
                  rw [beq_eq_false_iff_ne]
                  exact fun h => he (blA_inj h)
                obtain ⟨x, hx⟩ : ∃ x, x = ps[j2] := ⟨_, rfl⟩
                obtain ⟨y, hy⟩ : ∃ y, y = qs[j2] := ⟨_, rfl⟩
                rw [← hx] at c1 hxx
                rw [← hy] at c2 hxx
                clear hx hy he HN HI HF
                go_wp2_with fail
                refine wp_region_still_lit (by rfl) (by kernel_rfl) ?_
                change wpStill _ _ (World.drew _) (fun a' => _) _ _
                repeat still_step
                refine wpStill_nil ?_
                go_wp2_with fail
                go_roundw
                case rel => exact ⟨j2 + 1, false, by omega, by go_num, rfl, HI2, HND⟩
                case measure => simp [intOf]; omega
            · obtain rfl : j = j2 := by omega
              have hge2 : ¬ ((j : Int) < (j : Int)) := by omega
              have HX : Hid (SM = true) := Lib.hid (by
                rcases HI.out with h | h
                · cases h.1
                · exact h.2.1.2 (List.ext_getElem h.2.2.1 fun i h1 h2 => h.2.2.2 i h1 h2 (by rw [← HP1.out]; exact h1)))
              clear HI
              have HSMV : Hid (SM = true) := HX
              have HS1 : Hid (∀ W, SRow W a1 ps → SRow W a ps → Calls Try.prog 15 #[.agg #[.int .i64 (k : Int), .int .i64 (n : Int), .slice a j c], .agg #[.int .i64 (k : Int), .int .i64 (n : Int), .slice a1 j cap1]] W fun r w' => r = .returned (.bool true) ∧ Below W.heap.size W w') := Lib.hid fun W h h' => by
                have := wsame_any (w := W) (k : Int) (n : Int) (k : Int) (n : Int) (cap1 := c) (cap2 := cap1) h' HP1.out h HP1.out (by omega) (by omega)
                rwa [smA_true ⟨rfl, rfl, rfl⟩] at this
              have HS2 : Hid (∀ W, SRow W a1 ps → SRow W a2 qs → Calls Try.prog 15 #[.agg #[.int .i64 (k : Int), .int .i64 (n : Int), .slice a1 j cap1], .agg #[.int .i64 e2, .int .i64 n2, .slice a2 len2 cap2]] W fun r w' => r = .returned (.bool true) ∧ Below W.heap.size W w') := Lib.hid fun W h h' => by
                have := HSB.out W h h'
                rwa [HSMV.out] at this
              clear HSB
              obtain ⟨y0, y1, y2⟩ := Box.three HN.out.1.2.1
              go_wp2_with fail
              refine (wfail_any _ _).mono ?_
              rintro r w6 ⟨rfl, hb6⟩
              have HN7 : Hid (AnS w #[.int .i64 (k : Int), .int .i64 (n : Int), .slice a1 j cap1] #[.int .i64 e2, .int .i64 n2, .slice a2 len2 cap2] (w6.alloc (.cells #[.int .i64 (k : Int), .int .i64 0, .slice none 0 0] 35)) ∧ Box (w6.alloc (.cells #[.int .i64 (k : Int), .int .i64 0, .slice none 0 0] 35)) g 35 #[.int .i64 (k : Int), .int .i64 (n : Int), .slice a j c] ∧ Box (w6.alloc (.cells #[.int .i64 (k : Int), .int .i64 0, .slice none 0 0] 35)) w6.heap.size 35 #[.int .i64 (k : Int), .int .i64 0, .slice none 0 0] ∧ SRow (w6.alloc (.cells #[.int .i64 (k : Int), .int .i64 0, .slice none 0 0] 35)) a ps) := Lib.hid (by
                have h9 := hb6.trans (((Below.refl w6.heap.size w6).alloc (Nat.le_refl _) (.cells #[.int .i64 (k : Int), .int .i64 0, .slice none 0 0] 35)).mono hb6.size)
                exact ⟨HN.out.1.low h9, (h9.block _ HN.out.2.1.lt).trans HN.out.2.1, Box.new w6 _ _, HN.out.2.2.below h9⟩)
              have HN6 : Hid (AnS w #[.int .i64 (k : Int), .int .i64 (n : Int), .slice a1 j cap1] #[.int .i64 e2, .int .i64 n2, .slice a2 len2 cap2] w6 ∧ Box w6 g 35 #[.int .i64 (k : Int), .int .i64 (n : Int), .slice a j c]) := Lib.hid ⟨HN.out.1.low hb6, (hb6.block _ HN.out.2.1.lt).trans HN.out.2.1⟩
              obtain ⟨gf, hgf⟩ : ∃ gf, gf = w6.heap.size := ⟨_, rfl⟩
              rw [← hgf] at HN7
              clear hb6 HN y0 y1 y2
              obtain ⟨y0, y1, y2⟩ := Box.three HN6.out.1.2.1
              obtain ⟨x0, x1, x2⟩ := Box.three HN6.out.2
              have hg6 := HN6.out.2.lt
              have hy6 := HN6.out.1.2.1.lt
              clear HN6
              go_wp2_with fail
              rw [← hgf]
              clear hgf hg6 hy6
              refine (HS1.out _ (HR1.out.below HN7.out.1.1) HN7.out.2.2.2).mono ?_
              rintro r w8 ⟨rfl, hb8⟩
              have HN8 : Hid (AnS w #[.int .i64 (k : Int), .int .i64 (n : Int), .slice a1 j cap1] #[.int .i64 e2, .int .i64 n2, .slice a2 len2 cap2] w8 ∧ Box w8 gf 35 #[.int .i64 (k : Int), .int .i64 0, .slice none 0 0]) := Lib.hid ⟨HN7.out.1.low hb8, (hb8.block _ HN7.out.2.2.1.lt).trans HN7.out.2.2.1⟩
              clear hb8 HN7 HS1 y0 y1 y2 x0 x1 x2
              obtain ⟨y0, y1, y2⟩ := Box.three HN8.out.1.2.1
              obtain ⟨z0, z1, z2⟩ := Box.three HN8.out.1.2.2
              go_wp2_with fail
              refine (HS2.out _ (HR1.out.below HN8.out.1.1) (HR2.out.below HN8.out.1.1)).mono ?_
              rintro r w9 ⟨rfl, hb9⟩
              have HN9 : Hid (AnS w #[.int .i64 (k : Int), .int .i64 (n : Int), .slice a1 j cap1] #[.int .i64 e2, .int .i64 n2, .slice a2 len2 cap2] w9 ∧ Box w9 gf 35 #[.int .i64 (k : Int), .int .i64 0, .slice none 0 0]) := Lib.hid ⟨HN8.out.1.low hb9, (hb9.block _ HN8.out.2.lt).trans HN8.out.2⟩
              clear hb9 HN8 HS2 y0 y1 y2 z0 z1 z2
              obtain ⟨y0, y1, y2⟩ := Box.three HN9.out.1.2.1
              obtain ⟨x0, x1, x2⟩ := Box.three HN9.out.2
              have HBL := Lib.hid HN9.out.1.1
              clear HN9
              go_wp2
              go_ret
              exact ⟨rfl, HBL.out⟩

theorem walk {w : World} (e1 n1 : Int) (a1 : Option Addr) (len1 cap1 : Nat) (ps : List ByteArray) (h1 : Came w a1 len1 cap1 ps) (e2 n2 : Int) (a2 : Option Addr) (len2 cap2 : Nat) (qs : List ByteArray) (h2 : Came w a2 len2 cap2 qs) :
    Calls Try.prog 5 #[.agg #[.int .i64 e1, .int .i64 n1, .slice a1 len1 cap1], .agg #[.int .i64 e2, .int .i64 n2, .slice a2 len2 cap2]] w fun r w' => r = .returned (.bool true) ∧ Below w.heap.size w w' := by
  by_cases h : len1 ≤ 60 ∧ len2 ≤ 60 ∧ 0 ≤ e1 ∧ e1 ≤ 1000 ∧ 0 ≤ n1 ∧ n1 ≤ 1099511627776
  · obtain ⟨q1, q2, q3, q4, q5, q6⟩ := h
    obtain ⟨k, rfl⟩ : ∃ k : Nat, e1 = (k : Int) := ⟨e1.toNat, by omega⟩
    obtain ⟨n, rfl⟩ : ∃ n : Nat, n1 = (n : Int) := ⟨n1.toNat, by omega⟩
    exact walk_in k n (by omega) (by omega) a1 len1 cap1 ps h1 q1 e2 n2 a2 len2 cap2 qs h2 q2
  · exact walk_out e1 n1 a1 len1 cap1 e2 n2 a2 len2 cap2 (by omega)

end Go.Proofs.Ytcncoppnkodhmab.wireAnswers
