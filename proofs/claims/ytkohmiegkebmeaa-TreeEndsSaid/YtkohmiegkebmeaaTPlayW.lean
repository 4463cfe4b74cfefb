/-
  mailbaglaw06.play, walked: whatever acts, it answers true, with a tree and a list that hold the same.
-/
import Derived.Test.YtkohmiegkebmeaaTPlB
import Derived.Shelf.RegionOpenPlain
import Derived.Deep.RegionLaw
import Derived.BigRegion
namespace Go.Proofs.Ytkohmiegkebmeaa.tP
open Go.RowKit Go.Proofs.Ytkohmiegkebmeaa.tI

set_option linter.unusedVariables false
set_option linter.unusedSimpArgs false
attribute [local irreducible] wpStill

def PlayP (w : World) (n : Nat) (e : Ending) (w' : World) : Prop := ∃ t a c ps, e = .returned (.tuple #[.pointer (some ⟨t, 0, none⟩), .slice a (ps : List PI).length c, .bool true]) ∧ PlB w w' t (.slice a ps.length c) ps n
def RP (w W : World) (t : Nat) (a : Option Addr) (n c k : Nat) : Prop := ∃ ps : List PI, n = ps.length ∧ PlB w W t (.slice a n c) ps k

theorem PlX.drew {X : Nat → Prop} {w W : World} {t : Nat} {v : Value} {ab : Nat} {ps : List PI} {x : AC} {m : List KV} (h : PlX X w W t v ab ps x m) : PlX X w W.drew t v ab ps x m := h.below (Below.refl _ W).drew
theorem PlB.len {w W : World} {t : Nat} {v : Value} {ps : List PI} {k : Nat} (h : PlB w W t v ps k) : Calls Try.prog 15 #[.pointer (some ⟨t, 0, none⟩)] W fun e w' => e = .returned (.int .i64 ps.length) ∧ W = w' := by
  have := h.2.2.1.len
  rw [kv_length] at this
  exact this

/-- what the turns of a round ask -/
structure Turn (X : Nat → Prop) (w : World) (t : Nat) (v : Value) (ab : Nat) (ps : List PI) (x : AC) (b : Bool) : Prop where
  drop : ∀ W, PlX X w W t v ab ps x (kv ps) → Calls Try.prog 17 #[.pointer (some ⟨t, 0, none⟩), .string x.key] W fun e w' => e = .returned (.bool b) ∧ Hid (PlX X w w' t v ab ps x (dropK (kv ps) x.key))
  put : ∀ W, PlX X w W t v ab ps x (kv ps) → Calls Try.prog 16 #[.pointer (some ⟨t, 0, none⟩), .string x.key, .int .i64 x.n] W fun e w' => e = .returned (.bool b) ∧ Hid (PlX X w w' t v ab ps x (putK (kv ps) x.key (.int .i64 x.n)))
theorem turn_any {X : Nat → Prop} {w : World} {t : Nat} {v : Value} {ab : Nat} {ps : List PI} {x : AC} {b : Bool} (hb : (getK (kv ps) x.key).isSome = b) (hl : ps.length ≤ 1000) : Turn X w t v ab ps x b where
  drop W h := by
    refine (h.2.1.drop h.2.2.2.2.2.2 x.key).mono ?_
    rintro e w' ⟨rfl, h1, h2⟩
    exact ⟨by rw [hb], Lib.hid (h.turn h1 h2)⟩
  put W h := by
    refine (h.2.1.put h.2.2.2.2.2.2 (by rw [kv_length]; omega) x.key x.n).mono ?_
    rintro e w' ⟨rfl, h1, h2⟩
    exact ⟨by rw [hb], Lib.hid (h.turn h1 h2)⟩

set_option maxHeartbeats 16000000 in
set_option maxRecDepth 100000 in
theorem play_any {w : World} {a : Option Addr} {la ca : Nat} {vs : List AC} (h : ActsIs w a vs) (hl : vs.length = la) (hf : la ≤ 200) :
    Calls Try.prog 11 #[.slice a la ca] w (PlayP w la) := by
  have HW := Lib.hid h
  have HL := Lib.hid hl
  clear h hl
  have H0 : Hid (RP w ((w.alloc (.cells #[.slice none 0 0, .int .i64 0] 47)).alloc (.cells #[] 33)) w.heap.size (some ⟨w.heap.size + 1, 0, none⟩) 0 0 0) := Lib.hid (by
    have hb1 := (Below.refl w.heap.size w).alloc (Nat.le_refl _) (.cells #[.slice none 0 0, .int .i64 0] 47)
    have hT := tree_new (n := w.heap.size) w (Nat.le_refl _)
    have hr := row_empty (w.alloc (.cells #[.slice none 0 0, .int .i64 0] 47)) w.heap.size hb1.size
    rw [show (w.alloc (.cells #[.slice none 0 0, .int .i64 0] 47)).heap.size = w.heap.size + 1 by simp] at hr
    refine ⟨[], rfl, hb1.alloc hb1.size _, Nat.le_refl _, ⟨[], hT.keep fun q hq hl => ⟨Below.heap_alloc _ _ q hl, hq, fun hx => ?_⟩, rfl⟩, hr⟩
    have : w.heap.size + 1 = q := by simpa [Value.ownBlock] using hx
    simp at hl
    omega)
  go_enter Try.func11, Try.ntmps11
  go_wp2_with fail
  go_loopw [20, 5, 6] (fun i tv lv wr => ∃ (k t : Nat) (a2 : Option Addr) (n c : Nat), k ≤ la ∧ i = .int .i64 (k : Int) ∧ tv = .pointer (some ⟨t, 0, none⟩) ∧ lv = .slice a2 n c ∧ Hid (RP w wr t a2 n c k)) (fun i _ _ _ => la - (intOf i).toNat)
  case atStart => exact ⟨0, _, _, 0, 0, Nat.zero_le _, rfl, rfl, rfl, H0⟩
  case round =>
    obtain ⟨k, t, a2, n, c, hk, rfl, rfl, rfl, hst⟩ := hrel
    clear H0
    by_cases hlt : k < la
    · have hltI : (k : Int) < (la : Int) := by omega
      obtain ⟨ps, rfl, q0⟩ := hst.out
      have hk2 : k < vs.length := by rw [HL.out]; exact hlt
      obtain ⟨b, off, rfl, hb, hin⟩ := HW.out.at_ k hk2
      obtain ⟨x, hx⟩ : ∃ x, x = vs[k] := ⟨_, rfl⟩
      rw [← hx] at hin
      have hbw := q0.1
      have hin2 : ActIn wr b (off + k * 3) x := by
        obtain ⟨h0, h1, h2⟩ := hin
        exact ⟨(hbw.cell (p := ⟨b, _, none⟩) hb).trans h0, (hbw.cell (p := ⟨b, _, none⟩) hb).trans h1, (hbw.cell (p := ⟨b, _, none⟩) hb).trans h2⟩
      obtain ⟨c0, c1, c2⟩ := hin2
      have hpl : ps.length ≤ 200 := by have := q0.2.1; omega
      have hpc : ps.length ≤ c := by
        obtain ⟨a9, c9, e9, h9⟩ := q0.2.2.2.form
        injection e9 with _ _ e9
        omega
      have HPK : Hid (ps.length ≤ k) := Lib.hid q0.2.1
      have HX := Lib.hid (q0.act x)
      have hrise := tree_sorted q0.2.2.1
      have hmk := and_mask2 x.k
      obtain ⟨kk, hkk⟩ : ∃ kk, kk = x.k % 4 := ⟨_, rfl⟩
      rw [← hkk] at hmk
      have hle := at_le ps x.key
      have HLT := Lib.hid (at_lt hrise x.key)
      have HSP := Lib.hid (split_key hrise x.key)
      obtain ⟨at', hat⟩ : ∃ i, i = atK ps x.key := ⟨_, rfl⟩
      rw [← hat] at hle HLT HSP
      obtain ⟨ab, hab⟩ : ∃ ab, ab = wr.heap.size := ⟨_, rfl⟩
      have HVL : Hid (∀ q, (Value.slice a2 ps.length c).ownBlock = some q → q < ab) := Lib.hid fun q hq => by rw [hab]; exact (World.ownsRow.lt q0.2.2.2 q hq).2
      have HABW : Hid (w.heap.size ≤ ab) := Lib.hid (by rw [hab]; exact hbw.size)
      rw [← hab] at HX
      have HAB := Lib.hid hab
      clear hin hb hst hx hbw q0 hrise hkk hat hab
      go_wp2_with fail
      rw [← HAB.out]
      obtain ⟨WA, hWA⟩ : ∃ WA, WA = wr.alloc (.cells #[.int .i64 x.k, .int .i64 x.n, .string x.key] 62) := ⟨_, rfl⟩
      rw [← hWA] at HX ⊢
      clear hWA c0 c1 c2 HAB
      go_loopw [9] (fun iv wz => ∃ j : Nat, iv = .int .i64 (j : Int) ∧ j ≤ at' ∧ Hid (PlX (X2 (.slice a2 ps.length c) ab) w wz t (.slice a2 ps.length c) ab ps x (kv ps))) (fun iv _ => ps.length - (intOf iv).toNat)
      case atStart => exact ⟨0, rfl, Nat.zero_le _, HX⟩
      case round =>
        obtain ⟨j, rfl, hj, hX⟩ := hrel
        clear HX
        obtain ⟨⟨r0, r1, r2⟩, hrd⟩ := hX.out.reads
        by_cases hja : j < at'
        · have hjl : j < ps.length := by omega
          have hjI : (j : Int) < (ps.length : Int) := by omega
          obtain ⟨g, rfl, hcs⟩ := hrd (by omega)
          have hcell := (hcs j hjl).1
          have hless := (less_key (ps[j]).1 x.key).2 ((HLT.out j hjl).2 hja)
          generalize (ps[j]).1 = s at hcell hless
          have HX2 := Lib.hid hX.out.drew
          clear hX hrd hcs
          go_wp2_with fail
          refine wp_region_still_lit (by kernel_rfl) (by kernel_rfl) ?_
          change wpStill _ _ (World.drew _) (fun a' => _) _ _
          repeat still_step
          refine wpStill_nil ?_
          go_wp2_with fail
          go_roundw
          case rel => exact ⟨j + 1, by go_num, by omega, HX2⟩
          case measure => simp [intOf]; omega
        · obtain rfl : j = at' := by omega
          have HX2 := Lib.hid hX.out.drew.drew
          clear hX
          rcases HSP.out with ⟨hjl, hkey, hg, hput, hdrop⟩ | ⟨hne, hg, hput, hdrop⟩
          · have hjI : (j : Int) < (ps.length : Int) := by omega
            obtain ⟨g, rfl, hcs⟩ := hrd (by omega)
            have hcell := (hcs j hjl).1
            have hless : Op.bytesLess (ps[j]).1.toList x.key.toList = false := by
              rw [Bool.eq_false_iff]; exact fun e => hja ((HLT.out j hjl).1 ((less_key _ _).1 e))
            have hsame := (same_key (ps[j]).1 x.key).2 hkey
            generalize (ps[j]).1 = s at hcell hless hsame
            have HT : Hid (Turn (X2 (.slice (some ⟨g, 0, none⟩) ps.length c) ab) w t (.slice (some ⟨g, 0, none⟩) ps.length c) ab ps x true) := Lib.hid (turn_any hg (by omega))
            have HPUT := Lib.hid (hput x.n)
            have HDROP := Lib.hid hdrop
            have HKEY := Lib.hid hkey
            clear hrd hcs hput hdrop hg hkey HSP HLT
            have h2 : kk = 2 ∨ kk = 3 ∨ ((kk == 2) = false ∧ (kk == 3) = false) := by
              by_cases e2 : kk = 2
              · exact .inl e2
              · by_cases e3 : kk = 3
                · exact .inr (.inl e3)
                · exact .inr (.inr ⟨by simpa using e2, by simpa using e3⟩)
            rcases h2 with rfl | rfl | ⟨k2, k3⟩
            · go_wp2_with fail
              refine wp_region_still_lit (by kernel_rfl) (by kernel_rfl) ?_
              change wpStill _ _ (World.drew _) (fun a' => _) _ _
              repeat still_step
              refine wpStill_nil ?_
              change Exit.then _ _ Exit.normal _ (World.drew wr)
              go_wp2_with fail
              refine wp_region_still_lit (by kernel_rfl) (by kernel_rfl) ?_
              change wpStill _ _ (World.drew _) (fun a' => _) _ _
              repeat still_step
              refine wpStill_nil ?_
              change Exit.then _ _ Exit.normal _ (World.drew (World.drew wr))
              generalize hwv : World.drew (World.drew wr) = wv at HX2 ⊢
              obtain ⟨v0, v1, v2⟩ := HX2.out.reads.1
              clear hwv

              go_wp2_with fail
              refine (HT.out.drop _ HX2.out).mono ?_
              rintro e w5 ⟨rfl, H5⟩

              obtain ⟨off, a3, k3, W3, a4, k4, W4, hlo, hhi, hrun3, hrun4, hm4, hb4⟩ := drop_list (W := w5) H5.out.2.2.1 hpc (by omega) j hjl
              have HB : Hid (PlB w W4 t (.slice a4 (ps.length - 1) k4) (ps.take j ++ ps.drop (j + 1)) (k + 1)) := Lib.hid (H5.out.list HDROP.out hb4 hm4 (by rw [List.length_append, List.length_take, List.length_drop]; have := HPK.out; omega))
              have HN : Hid (ps.length - 1 = (ps.take j ++ ps.drop (j + 1)).length) := Lib.hid (by rw [List.length_append, List.length_take, List.length_drop]; omega)
              have hw1 : IntKind.i64.wrap ((j : Int) + 1) = (j : Int) + 1 := by rw [IntKind.wrap_i64]; omega
              have hr5 := H5.out.reads.1.2.2
              clear HT HPUT HDROP HX2 H5 hm4 hb4
              go_wp2_with fail
              go_region_law (first
                | (refine step_run rfl (.tmp 102) (.tmp 105) 26 rfl (.slice (some ⟨w5.heap.size, 0, none⟩) 0 0) (.slice (some ⟨g, 0, none⟩) j c) (by simp [Act.eval, Act.put]) (by simp [Act.eval, Act.put]) hrun3 ?_)
                | (refine step_run rfl (.tmp 106) (.tmp 110) 26 rfl (.slice a3 j k3) (.slice (some ⟨g, off, none⟩) (ps.length - (j + 1)) (c - (j + 1))) (by simp [Act.eval, Act.put]) (by simp [Act.eval, Act.put]) hrun4 ?_))
              all_goals
                have HB1 := Lib.hid HB.out.len
                rw [← HN.out] at HB1
                go_wp2_with fail
                refine HB1.out.mono ?_
                rintro e w9 ⟨rfl, rfl⟩
                go_wp2
                go_roundw
                case rel => exact ⟨k + 1, t, _, _, k4, by omega, by go_num, rfl, rfl, Lib.hid ⟨_, HN.out, HB.out⟩⟩
                case measure => simp [intOf]; omega
            · go_wp2_with fail
              refine wp_region_still_lit (by kernel_rfl) (by kernel_rfl) ?_
              change wpStill _ _ (World.drew _) (fun a' => _) _ _
              repeat still_step
              refine wpStill_nil ?_
              change Exit.then _ _ Exit.normal _ (World.drew wr)
              go_wp2_with fail
              refine wp_region_still_lit (by kernel_rfl) (by kernel_rfl) ?_
              change wpStill _ _ (World.drew _) (fun a' => _) _ _
              repeat still_step
              refine wpStill_nil ?_
              change Exit.then _ _ Exit.normal _ (World.drew (World.drew wr))
              generalize hwv : World.drew (World.drew wr) = wv at HX2 ⊢
              obtain ⟨v0, v1, v2⟩ := HX2.out.reads.1
              clear hwv

              go_wp2_with fail
              refine HX2.out.2.1.clone.mono ?_
              rintro e w5 ⟨t2, rfl, hb5, hT2⟩
              have HV9 : Hid ((∀ q, (Value.slice (some ⟨g, 0, none⟩) ps.length c).ownBlock = some q → q < wv.heap.size) ∧ w.heap.size ≤ wv.heap.size) := Lib.hid ⟨fun q hq => HX2.out.2.2.2.2.2.2 q (.inl hq), HX2.out.1.size⟩
              have HXC := Lib.hid (HX2.out.cloned hb5)
              have HC0 : Hid (Cl wv w5 t2 (kv ps) (X2 (.slice (some ⟨g, 0, none⟩) ps.length c) ab) w.heap.size w5) := Lib.hid ⟨hT2, Below.refl _ _, fun _ _ => rfl⟩
              obtain ⟨r5, r6, r7⟩ := HXC.out.reads.1
              have HP5 : Hid (Calls Try.prog 16 #[.pointer (some ⟨t, 0, none⟩), .string x.key, .int .i64 x.n] w5 fun e w' => (∃ b, e = .returned (.bool b)) ∧ Hid (∃ m, PlX (X3 (X2 (.slice (some ⟨g, 0, none⟩) ps.length c) ab) wv.heap.size w5.heap.size) w w' t (.slice (some ⟨g, 0, none⟩) ps.length c) ab ps x m ∧ Cl wv w5 t2 (kv ps) (X2 (.slice (some ⟨g, 0, none⟩) ps.length c) ab) w.heap.size w')) := Lib.hid (by
                refine (HXC.out.2.1.put HXC.out.2.2.2.2.2.2 (by rw [kv_length]; omega) x.key x.n).mono ?_
                rintro e w' ⟨rfl, h1, h2⟩
                exact ⟨⟨_, rfl⟩, Lib.hid ⟨_, HXC.out.turn h1 h2, HC0.out.1, HC0.out.2.trans h1⟩⟩)
              clear HT HPUT HDROP HX2 hb5 hT2 HXC HC0
              go_wp2_with fail
              refine HP5.out.mono ?_
              rintro e w6 ⟨⟨b6, rfl⟩, H6⟩
              clear HP5
              go_wp2_with fail
              go_loopw [124] (fun iv wz => ∃ l : Nat, l ≤ ps.length ∧ iv = .int .i64 (l : Int) ∧ Hid (∃ m, PlX (X3 (X2 (.slice (some ⟨g, 0, none⟩) ps.length c) ab) wv.heap.size w5.heap.size) w wz t (.slice (some ⟨g, 0, none⟩) ps.length c) ab ps x m ∧ Cl wv w5 t2 (kv ps) (X2 (.slice (some ⟨g, 0, none⟩) ps.length c) ab) w.heap.size wz)) (fun iv _ => ps.length - (intOf iv).toNat)
              case atStart => exact ⟨0, Nat.zero_le _, rfl, H6⟩
              case round =>
                obtain ⟨l, hl9, rfl, hX9⟩ := hrel
                clear H6
                by_cases hll : l < ps.length
                · have hlI : (l : Int) < (ps.length : Int) := by omega
                  obtain ⟨m9, p9, d9⟩ := hX9.out
                  obtain ⟨_, hrd9⟩ := p9.reads
                  obtain ⟨g9, e9, hcs⟩ := hrd9 (by omega)
                  obtain rfl : g = g9 := by injection e9 with e9; injection e9 with e9
                  have hcell9 := hcs l hll
                  have HD9 : Hid (Calls Try.prog 17 #[.pointer (some ⟨t, 0, none⟩), .string (ps[l]).1] (wr.alloc (.cells #[.string (ps[l]).1, .int .i64 (ps[l]).2] 33)) fun e w' => (∃ b, e = .returned (.bool b)) ∧ Hid (∃ m, PlX (X3 (X2 (.slice (some ⟨g, 0, none⟩) ps.length c) ab) wv.heap.size w5.heap.size) w w' t (.slice (some ⟨g, 0, none⟩) ps.length c) ab ps x m ∧ Cl wv w5 t2 (kv ps) (X2 (.slice (some ⟨g, 0, none⟩) ps.length c) ab) w.heap.size w')) := Lib.hid (by
                    have hb9 := (Below.refl _ wr).alloc (Nat.le_refl _) (.cells #[.string (ps[l]).1, .int .i64 (ps[l]).2] 33)
                    have p10 := p9.below hb9
                    refine (p10.2.1.drop p10.2.2.2.2.2.2 (ps[l]).1).mono ?_
                    rintro e w' ⟨rfl, h1, h2⟩
                    exact ⟨⟨_, rfl⟩, Lib.hid ⟨_, p10.turn h1 h2, d9.1, (d9.2.trans (Kept.below p9.2.2.2.2.2.2 p9.1.size hb9)).trans h1⟩⟩)
                  obtain ⟨hc91, hc92⟩ := hcell9
                  generalize (ps[l]).1 = s9 at hc91 HD9
                  generalize (ps[l]).2 = z9 at hc92 HD9
                  clear hX9 p9 d9 hrd9 hcs
                  go_wp2_with fail
                  refine HD9.out.mono ?_
                  rintro e w7 ⟨⟨b7, rfl⟩, H7⟩
                  clear HD9
                  go_wp2
                  go_roundw
                  case rel => exact ⟨l + 1, by omega, by go_num, H7⟩
                  case measure => simp [intOf]; omega
                · obtain ⟨m9, p9, d9⟩ := hX9.out
                  have HB : Hid (PlB w wr t2 (.slice (some ⟨g, 0, none⟩) ps.length c) ps (k + 1)) := Lib.hid (p9.clone d9 HV9.out.1 HV9.out.2 rfl (by have := HPK.out; omega))
                  obtain rfl : l = ps.length := by omega
                  clear hX9 p9 d9
                  go_wp2_with fail
                  refine HB.out.len.mono ?_
                  rintro e w9 ⟨rfl, rfl⟩
                  go_wp2
                  go_roundw
                  case rel => exact ⟨k + 1, t2, _, _, c, by omega, by go_num, rfl, rfl, Lib.hid ⟨ps, rfl, HB.out⟩⟩
                  case measure => simp [intOf]; omega
            · go_wp2_with fail
              refine wp_region_still_lit (by kernel_rfl) (by kernel_rfl) ?_
              change wpStill _ _ (World.drew _) (fun a' => _) _ _
              repeat still_step
              refine wpStill_nil ?_
              change Exit.then _ _ Exit.normal _ (World.drew wr)
              go_wp2_with fail
              refine wp_region_still_lit (by kernel_rfl) (by kernel_rfl) ?_
              change wpStill _ _ (World.drew _) (fun a' => _) _ _
              repeat still_step
              refine wpStill_nil ?_
              change Exit.then _ _ Exit.normal _ (World.drew (World.drew wr))
              generalize hwv : World.drew (World.drew wr) = wv at HX2 ⊢
              obtain ⟨v0, v1, v2⟩ := HX2.out.reads.1
              clear hwv

              go_wp2_with fail
              refine (HT.out.put _ HX2.out).mono ?_
              rintro e w5 ⟨rfl, H5⟩
              obtain ⟨r5, r6, r7⟩ := H5.out.reads.1

              obtain ⟨a3, k3, W3, hrun3, hm3, hb3⟩ := copy_list H5.out.2.2.1 (by omega)
              obtain ⟨g3, rfl, _, hg3⟩ := hm3.blk (by omega)
              have HB : Hid (PlB w (W3.setCell ⟨g3, j * 2 + 1, none⟩ (.int .i64 x.n)) t (.slice (some ⟨g3, 0, none⟩) ps.length k3) (ps.set j (x.key, x.n)) (k + 1)) := Lib.hid (by
                have h1 := hm3.set rfl j 1 (.int .i64 x.n) (x.key, x.n) hjl (by omega) (by
                  have := HKEY.out
                  simp [fcells, this])
                refine H5.out.list HPUT.out (hb3.setCell (p := ⟨g3, j * 2 + 1, none⟩) (World.ownsRow.lt hm3 g3 rfl).1 _) ?_ (by rw [List.length_set]; have := HPK.out; omega)
                unfold MRow at h1 ⊢
                rw [List.length_set] at h1 ⊢
                exact h1)
              have h5 := (H5.out.below hb3).reads.1.2.1
              have hfz := World.ownsRow.frozenAt hm3 (j * 2 + 1)
              have hcx := (hm3.cell j hjl).2
              have HN : Hid (ps.length = (ps.set j (x.key, x.n)).length) := Lib.hid (by rw [List.length_set])
              clear HT HPUT HDROP HX2 H5 hm3 hb3
              go_wp2_with (refine list_run rfl (.tmp 66) (.tmp 67) 26 rfl (.slice (some ⟨w5.heap.size, 0, none⟩) 0 0) (.slice (some ⟨g, 0, none⟩) ps.length c) (by simp [Act.eval]) (by simp [Act.eval]) hrun3 ?_)
              have HB1 := Lib.hid HB.out.len
              rw [← HN.out] at HB1
              (try go_wp2_with fail)
              refine HB1.out.mono ?_
              rintro e w9 ⟨rfl, rfl⟩
              go_wp2
              go_roundw
              case rel => exact ⟨k + 1, t, _, _, k3, by omega, by go_num, rfl, rfl, Lib.hid ⟨_, HN.out, HB.out⟩⟩
              case measure => simp [intOf]; omega
          · have HT : Hid (Turn (X2 (.slice a2 ps.length c) ab) w t (.slice a2 ps.length c) ab ps x false) := Lib.hid (turn_any hg (by omega))
            have HPUT := Lib.hid (hput x.n)
            have HDROP := Lib.hid hdrop
            by_cases hjl : j < ps.length
            · have hjI : (j : Int) < (ps.length : Int) := by omega
              obtain ⟨g, rfl, hcs⟩ := hrd (by omega)
              have hcell := (hcs j hjl).1
              have hless : Op.bytesLess (ps[j]).1.toList x.key.toList = false := by
                rw [Bool.eq_false_iff]; exact fun e => hja ((HLT.out j hjl).1 ((less_key _ _).1 e))
              have hsame : ((ps[j]).1.toList == x.key.toList) = false := by
                rw [Bool.eq_false_iff]; exact fun e => hne hjl ((same_key _ _).1 e)
              generalize (ps[j]).1 = s at hcell hless hsame
              clear hrd hcs hput hdrop hg hne HSP HLT
              have h2 : kk = 2 ∨ kk = 3 ∨ ((kk == 2) = false ∧ (kk == 3) = false) := by
                by_cases e2 : kk = 2
                · exact .inl e2
                · by_cases e3 : kk = 3
                  · exact .inr (.inl e3)
                  · exact .inr (.inr ⟨by simpa using e2, by simpa using e3⟩)
              rcases h2 with rfl | rfl | ⟨k2, k3⟩
              · go_wp2_with fail
                refine wp_region_still_lit (by kernel_rfl) (by kernel_rfl) ?_
                change wpStill _ _ (World.drew _) (fun a' => _) _ _
                repeat still_step
                refine wpStill_nil ?_
                change Exit.then _ _ Exit.normal _ (World.drew wr)
                go_wp2_with fail
                refine wp_region_still_lit (by kernel_rfl) (by kernel_rfl) ?_
                change wpStill _ _ (World.drew _) (fun a' => _) _ _
                repeat still_step
                refine wpStill_nil ?_
                change Exit.then _ _ Exit.normal _ (World.drew (World.drew wr))
                generalize hwv : World.drew (World.drew wr) = wv at HX2 ⊢
                obtain ⟨v0, v1, v2⟩ := HX2.out.reads.1
                clear hwv

                go_wp2_with fail
                refine (HT.out.drop _ HX2.out).mono ?_
                rintro e w5 ⟨rfl, H5⟩

                have HB : Hid (PlB w w5 t (.slice (some ⟨g, 0, none⟩) ps.length c) ps (k + 1)) := Lib.hid (H5.out.same HDROP.out (by have := HPK.out; omega))
                clear HT HPUT HDROP HX2 H5

                go_wp2_with fail
                refine HB.out.len.mono ?_
                rintro e w9 ⟨rfl, rfl⟩
                go_wp2
                go_roundw
                case rel => exact ⟨k + 1, t, _, _, c, by omega, by go_num, rfl, rfl, Lib.hid ⟨ps, rfl, HB.out⟩⟩
                case measure => simp [intOf]; omega
              · go_wp2_with fail
                refine wp_region_still_lit (by kernel_rfl) (by kernel_rfl) ?_
                change wpStill _ _ (World.drew _) (fun a' => _) _ _
                repeat still_step
                refine wpStill_nil ?_
                change Exit.then _ _ Exit.normal _ (World.drew wr)
                go_wp2_with fail
                refine wp_region_still_lit (by kernel_rfl) (by kernel_rfl) ?_
                change wpStill _ _ (World.drew _) (fun a' => _) _ _
                repeat still_step
                refine wpStill_nil ?_
                change Exit.then _ _ Exit.normal _ (World.drew (World.drew wr))
                generalize hwv : World.drew (World.drew wr) = wv at HX2 ⊢
                obtain ⟨v0, v1, v2⟩ := HX2.out.reads.1
                clear hwv

                go_wp2_with fail
                refine HX2.out.2.1.clone.mono ?_
                rintro e w5 ⟨t2, rfl, hb5, hT2⟩
                have HV9 : Hid ((∀ q, (Value.slice (some ⟨g, 0, none⟩) ps.length c).ownBlock = some q → q < wv.heap.size) ∧ w.heap.size ≤ wv.heap.size) := Lib.hid ⟨fun q hq => HX2.out.2.2.2.2.2.2 q (.inl hq), HX2.out.1.size⟩
                have HXC := Lib.hid (HX2.out.cloned hb5)
                have HC0 : Hid (Cl wv w5 t2 (kv ps) (X2 (.slice (some ⟨g, 0, none⟩) ps.length c) ab) w.heap.size w5) := Lib.hid ⟨hT2, Below.refl _ _, fun _ _ => rfl⟩
                obtain ⟨r5, r6, r7⟩ := HXC.out.reads.1
                have HP5 : Hid (Calls Try.prog 16 #[.pointer (some ⟨t, 0, none⟩), .string x.key, .int .i64 x.n] w5 fun e w' => (∃ b, e = .returned (.bool b)) ∧ Hid (∃ m, PlX (X3 (X2 (.slice (some ⟨g, 0, none⟩) ps.length c) ab) wv.heap.size w5.heap.size) w w' t (.slice (some ⟨g, 0, none⟩) ps.length c) ab ps x m ∧ Cl wv w5 t2 (kv ps) (X2 (.slice (some ⟨g, 0, none⟩) ps.length c) ab) w.heap.size w')) := Lib.hid (by
                  refine (HXC.out.2.1.put HXC.out.2.2.2.2.2.2 (by rw [kv_length]; omega) x.key x.n).mono ?_
                  rintro e w' ⟨rfl, h1, h2⟩
                  exact ⟨⟨_, rfl⟩, Lib.hid ⟨_, HXC.out.turn h1 h2, HC0.out.1, HC0.out.2.trans h1⟩⟩)
                clear HT HPUT HDROP HX2 hb5 hT2 HXC HC0
                go_wp2_with fail
                refine HP5.out.mono ?_
                rintro e w6 ⟨⟨b6, rfl⟩, H6⟩
                clear HP5
                go_wp2_with fail
                go_loopw [124] (fun iv wz => ∃ l : Nat, l ≤ ps.length ∧ iv = .int .i64 (l : Int) ∧ Hid (∃ m, PlX (X3 (X2 (.slice (some ⟨g, 0, none⟩) ps.length c) ab) wv.heap.size w5.heap.size) w wz t (.slice (some ⟨g, 0, none⟩) ps.length c) ab ps x m ∧ Cl wv w5 t2 (kv ps) (X2 (.slice (some ⟨g, 0, none⟩) ps.length c) ab) w.heap.size wz)) (fun iv _ => ps.length - (intOf iv).toNat)
                case atStart => exact ⟨0, Nat.zero_le _, rfl, H6⟩
                case round =>
                  obtain ⟨l, hl9, rfl, hX9⟩ := hrel
                  clear H6
                  by_cases hll : l < ps.length
                  · have hlI : (l : Int) < (ps.length : Int) := by omega
                    obtain ⟨m9, p9, d9⟩ := hX9.out
                    obtain ⟨_, hrd9⟩ := p9.reads
                    obtain ⟨g9, e9, hcs⟩ := hrd9 (by omega)
                    obtain rfl : g = g9 := by injection e9 with e9; injection e9 with e9
                    have hcell9 := hcs l hll
                    have HD9 : Hid (Calls Try.prog 17 #[.pointer (some ⟨t, 0, none⟩), .string (ps[l]).1] (wr.alloc (.cells #[.string (ps[l]).1, .int .i64 (ps[l]).2] 33)) fun e w' => (∃ b, e = .returned (.bool b)) ∧ Hid (∃ m, PlX (X3 (X2 (.slice (some ⟨g, 0, none⟩) ps.length c) ab) wv.heap.size w5.heap.size) w w' t (.slice (some ⟨g, 0, none⟩) ps.length c) ab ps x m ∧ Cl wv w5 t2 (kv ps) (X2 (.slice (some ⟨g, 0, none⟩) ps.length c) ab) w.heap.size w')) := Lib.hid (by
                      have hb9 := (Below.refl _ wr).alloc (Nat.le_refl _) (.cells #[.string (ps[l]).1, .int .i64 (ps[l]).2] 33)
                      have p10 := p9.below hb9
                      refine (p10.2.1.drop p10.2.2.2.2.2.2 (ps[l]).1).mono ?_
                      rintro e w' ⟨rfl, h1, h2⟩
                      exact ⟨⟨_, rfl⟩, Lib.hid ⟨_, p10.turn h1 h2, d9.1, (d9.2.trans (Kept.below p9.2.2.2.2.2.2 p9.1.size hb9)).trans h1⟩⟩)
                    obtain ⟨hc91, hc92⟩ := hcell9
                    generalize (ps[l]).1 = s9 at hc91 HD9
                    generalize (ps[l]).2 = z9 at hc92 HD9
                    clear hX9 p9 d9 hrd9 hcs
                    go_wp2_with fail
                    refine HD9.out.mono ?_
                    rintro e w7 ⟨⟨b7, rfl⟩, H7⟩
                    clear HD9
                    go_wp2
                    go_roundw
                    case rel => exact ⟨l + 1, by omega, by go_num, H7⟩
                    case measure => simp [intOf]; omega
                  · obtain ⟨m9, p9, d9⟩ := hX9.out
                    have HB : Hid (PlB w wr t2 (.slice (some ⟨g, 0, none⟩) ps.length c) ps (k + 1)) := Lib.hid (p9.clone d9 HV9.out.1 HV9.out.2 rfl (by have := HPK.out; omega))
                    obtain rfl : l = ps.length := by omega
                    clear hX9 p9 d9
                    go_wp2_with fail
                    refine HB.out.len.mono ?_
                    rintro e w9 ⟨rfl, rfl⟩
                    go_wp2
                    go_roundw
                    case rel => exact ⟨k + 1, t2, _, _, c, by omega, by go_num, rfl, rfl, Lib.hid ⟨ps, rfl, HB.out⟩⟩
                    case measure => simp [intOf]; omega
              · go_wp2_with fail
                refine wp_region_still_lit (by kernel_rfl) (by kernel_rfl) ?_
                change wpStill _ _ (World.drew _) (fun a' => _) _ _
                repeat still_step
                refine wpStill_nil ?_
                change Exit.then _ _ Exit.normal _ (World.drew wr)
                go_wp2_with fail
                refine wp_region_still_lit (by kernel_rfl) (by kernel_rfl) ?_
                change wpStill _ _ (World.drew _) (fun a' => _) _ _
                repeat still_step
                refine wpStill_nil ?_
                change Exit.then _ _ Exit.normal _ (World.drew (World.drew wr))
                generalize hwv : World.drew (World.drew wr) = wv at HX2 ⊢
                obtain ⟨v0, v1, v2⟩ := HX2.out.reads.1
                clear hwv

                go_wp2_with fail
                refine (HT.out.put _ HX2.out).mono ?_
                rintro e w5 ⟨rfl, H5⟩
                obtain ⟨r5, r6, r7⟩ := H5.out.reads.1

                obtain ⟨b1, b2, n2, c2, a3, n3, k3, W3, a5, k5, W5, a6, k6, W6, hs1, hs2, hrun3, hb3, hrun5, hrun6, hm6, hb6⟩ := ins_list (W := w5) H5.out.2.2.1 hpc (by omega) j (by omega) x.key x.n
                have HB : Hid (PlB w W6 t (.slice a6 (ps.length + 1) k6) ((ps.take j ++ [(x.key, x.n)]) ++ ps.drop j) (k + 1)) := Lib.hid (H5.out.list HPUT.out hb6 hm6 (by rw [List.length_append, List.length_append, List.length_take, List.length_drop]; have := HPK.out; simp; omega))
                have HN : Hid (ps.length + 1 = ((ps.take j ++ [(x.key, x.n)]) ++ ps.drop j).length) := Lib.hid (by rw [List.length_append, List.length_append, List.length_take, List.length_drop]; simp; omega)
                obtain ⟨_, r8, r9⟩ := (H5.out.below hb3).reads.1
                have hl8 := World.block_lt_of_cell? W3 _ r8
                have hl5 := World.block_lt_of_cell? w5 _ r5
                clear HT HPUT HDROP HX2 H5 hm6 hb6 hb3
                go_wp2_with (refine list_run rfl (.tmp 75) (.tmp 78) 26 rfl (.slice (some ⟨w5.heap.size, 0, none⟩) 0 0) (.slice b2 n2 c2) (by simp [Act.eval]) (by simp [Act.eval]) hrun3 ?_)
                go_region_law (first
                  | (refine step_run rfl (.tmp 83) (.tmp 89) 26 rfl (.slice b1 j j) (.slice (some ⟨W3.heap.size, 0, none⟩) 1 1) (by simp [Act.eval, Act.put]) (by simp [Act.eval, Act.put]) hrun5 ?_)
                  | (refine step_run rfl (.tmp 90) (.tmp 91) 26 rfl (.slice a5 (j + 1) k5) (.slice a3 n3 k3) (by simp [Act.eval]) (by simp [Act.eval]) hrun6 ?_))
                all_goals
                  have HB1 := Lib.hid HB.out.len
                  rw [← HN.out] at HB1
                  go_wp2_with fail
                  refine HB1.out.mono ?_
                  rintro e w9 ⟨rfl, rfl⟩
                  go_wp2
                  go_roundw
                  case rel => exact ⟨k + 1, t, _, _, k6, by omega, by go_num, rfl, rfl, Lib.hid ⟨_, HN.out, HB.out⟩⟩
                  case measure => simp [intOf]; omega
            · have hjI : ¬ (j : Int) < (ps.length : Int) := by omega
              clear hrd hput hdrop hg hne HSP HLT
              have h2 : kk = 2 ∨ kk = 3 ∨ ((kk == 2) = false ∧ (kk == 3) = false) := by
                by_cases e2 : kk = 2
                · exact .inl e2
                · by_cases e3 : kk = 3
                  · exact .inr (.inl e3)
                  · exact .inr (.inr ⟨by simpa using e2, by simpa using e3⟩)
              rcases h2 with rfl | rfl | ⟨k2, k3⟩
              · go_wp2_with fail
                refine wp_region_still_lit (by kernel_rfl) (by kernel_rfl) ?_
                change wpStill _ _ (World.drew _) (fun a' => _) _ _
                repeat still_step
                refine wpStill_nil ?_
                change Exit.then _ _ Exit.normal _ (World.drew wr)
                go_wp2_with fail
                refine wp_region_still_lit (by kernel_rfl) (by kernel_rfl) ?_
                change wpStill _ _ (World.drew _) (fun a' => _) _ _
                repeat still_step
                refine wpStill_nil ?_
                change Exit.then _ _ Exit.normal _ (World.drew (World.drew wr))
                generalize hwv : World.drew (World.drew wr) = wv at HX2 ⊢
                obtain ⟨v0, v1, v2⟩ := HX2.out.reads.1
                clear hwv

                go_wp2_with fail
                refine (HT.out.drop _ HX2.out).mono ?_
                rintro e w5 ⟨rfl, H5⟩

                have HB : Hid (PlB w w5 t (.slice a2 ps.length c) ps (k + 1)) := Lib.hid (H5.out.same HDROP.out (by have := HPK.out; omega))
                clear HT HPUT HDROP HX2 H5

                go_wp2_with fail
                refine HB.out.len.mono ?_
                rintro e w9 ⟨rfl, rfl⟩
                go_wp2
                go_roundw
                case rel => exact ⟨k + 1, t, _, _, c, by omega, by go_num, rfl, rfl, Lib.hid ⟨ps, rfl, HB.out⟩⟩
                case measure => simp [intOf]; omega
              · go_wp2_with fail
                refine wp_region_still_lit (by kernel_rfl) (by kernel_rfl) ?_
                change wpStill _ _ (World.drew _) (fun a' => _) _ _
                repeat still_step
                refine wpStill_nil ?_
                change Exit.then _ _ Exit.normal _ (World.drew wr)
                go_wp2_with fail
                refine wp_region_still_lit (by kernel_rfl) (by kernel_rfl) ?_
                change wpStill _ _ (World.drew _) (fun a' => _) _ _
                repeat still_step
                refine wpStill_nil ?_
                change Exit.then _ _ Exit.normal _ (World.drew (World.drew wr))
                generalize hwv : World.drew (World.drew wr) = wv at HX2 ⊢
                obtain ⟨v0, v1, v2⟩ := HX2.out.reads.1
                clear hwv
                rcases Nat.eq_zero_or_pos ps.length with h00 | h00
                · have H00 := Lib.hid h00
                  clear h00
                  go_wp2_with fail
                  refine HX2.out.2.1.clone.mono ?_
                  rintro e w5 ⟨t2, rfl, hb5, hT2⟩
                  have HV9 : Hid ((∀ q, (Value.slice a2 ps.length c).ownBlock = some q → q < wv.heap.size) ∧ w.heap.size ≤ wv.heap.size) := Lib.hid ⟨fun q hq => HX2.out.2.2.2.2.2.2 q (.inl hq), HX2.out.1.size⟩
                  have HXC := Lib.hid (HX2.out.cloned hb5)
                  have HC0 : Hid (Cl wv w5 t2 (kv ps) (X2 (.slice a2 ps.length c) ab) w.heap.size w5) := Lib.hid ⟨hT2, Below.refl _ _, fun _ _ => rfl⟩
                  obtain ⟨r5, r6, r7⟩ := HXC.out.reads.1
                  have HP5 : Hid (Calls Try.prog 16 #[.pointer (some ⟨t, 0, none⟩), .string x.key, .int .i64 x.n] w5 fun e w' => (∃ b, e = .returned (.bool b)) ∧ Hid (∃ m, PlX (X3 (X2 (.slice a2 ps.length c) ab) wv.heap.size w5.heap.size) w w' t (.slice a2 ps.length c) ab ps x m ∧ Cl wv w5 t2 (kv ps) (X2 (.slice a2 ps.length c) ab) w.heap.size w')) := Lib.hid (by
                    refine (HXC.out.2.1.put HXC.out.2.2.2.2.2.2 (by rw [kv_length]; omega) x.key x.n).mono ?_
                    rintro e w' ⟨rfl, h1, h2⟩
                    exact ⟨⟨_, rfl⟩, Lib.hid ⟨_, HXC.out.turn h1 h2, HC0.out.1, HC0.out.2.trans h1⟩⟩)
                  clear HT HPUT HDROP HX2 hb5 hT2 HXC HC0
                  go_wp2_with fail
                  refine HP5.out.mono ?_
                  rintro e w6 ⟨⟨b6, rfl⟩, H6⟩
                  clear HP5
                  go_wp2_with fail
                  go_loopw [124] (fun iv wz => ∃ l : Nat, l ≤ ps.length ∧ iv = .int .i64 (l : Int) ∧ Hid (∃ m, PlX (X3 (X2 (.slice a2 ps.length c) ab) wv.heap.size w5.heap.size) w wz t (.slice a2 ps.length c) ab ps x m ∧ Cl wv w5 t2 (kv ps) (X2 (.slice a2 ps.length c) ab) w.heap.size wz)) (fun iv _ => ps.length - (intOf iv).toNat)
                  case atStart => exact ⟨0, Nat.zero_le _, rfl, H6⟩
                  case round =>
                    obtain ⟨l, hl9, rfl, hX9⟩ := hrel
                    clear H6
                    by_cases hll : l < ps.length
                    · have hlI : (l : Int) < (ps.length : Int) := by omega
                      have := H00.out
                      omega
                    · obtain ⟨m9, p9, d9⟩ := hX9.out
                      have HB : Hid (PlB w wr t2 (.slice a2 ps.length c) ps (k + 1)) := Lib.hid (p9.clone d9 HV9.out.1 HV9.out.2 rfl (by have := HPK.out; omega))
                      obtain rfl : l = ps.length := by omega
                      clear hX9 p9 d9
                      go_wp2_with fail
                      refine HB.out.len.mono ?_
                      rintro e w9 ⟨rfl, rfl⟩
                      go_wp2
                      go_roundw
                      case rel => exact ⟨k + 1, t2, _, _, c, by omega, by go_num, rfl, rfl, Lib.hid ⟨ps, rfl, HB.out⟩⟩
                      case measure => simp [intOf]; omega
                · obtain ⟨g, rfl, _⟩ := HX2.out.reads.2 h00
                  go_wp2_with fail
                  refine HX2.out.2.1.clone.mono ?_
                  rintro e w5 ⟨t2, rfl, hb5, hT2⟩
                  have HV9 : Hid ((∀ q, (Value.slice (some ⟨g, 0, none⟩) ps.length c).ownBlock = some q → q < wv.heap.size) ∧ w.heap.size ≤ wv.heap.size) := Lib.hid ⟨fun q hq => HX2.out.2.2.2.2.2.2 q (.inl hq), HX2.out.1.size⟩
                  have HXC := Lib.hid (HX2.out.cloned hb5)
                  have HC0 : Hid (Cl wv w5 t2 (kv ps) (X2 (.slice (some ⟨g, 0, none⟩) ps.length c) ab) w.heap.size w5) := Lib.hid ⟨hT2, Below.refl _ _, fun _ _ => rfl⟩
                  obtain ⟨r5, r6, r7⟩ := HXC.out.reads.1
                  have HP5 : Hid (Calls Try.prog 16 #[.pointer (some ⟨t, 0, none⟩), .string x.key, .int .i64 x.n] w5 fun e w' => (∃ b, e = .returned (.bool b)) ∧ Hid (∃ m, PlX (X3 (X2 (.slice (some ⟨g, 0, none⟩) ps.length c) ab) wv.heap.size w5.heap.size) w w' t (.slice (some ⟨g, 0, none⟩) ps.length c) ab ps x m ∧ Cl wv w5 t2 (kv ps) (X2 (.slice (some ⟨g, 0, none⟩) ps.length c) ab) w.heap.size w')) := Lib.hid (by
                    refine (HXC.out.2.1.put HXC.out.2.2.2.2.2.2 (by rw [kv_length]; omega) x.key x.n).mono ?_
                    rintro e w' ⟨rfl, h1, h2⟩
                    exact ⟨⟨_, rfl⟩, Lib.hid ⟨_, HXC.out.turn h1 h2, HC0.out.1, HC0.out.2.trans h1⟩⟩)
                  clear HT HPUT HDROP HX2 hb5 hT2 HXC HC0
                  go_wp2_with fail
                  refine HP5.out.mono ?_
                  rintro e w6 ⟨⟨b6, rfl⟩, H6⟩
                  clear HP5
                  go_wp2_with fail
                  go_loopw [124] (fun iv wz => ∃ l : Nat, l ≤ ps.length ∧ iv = .int .i64 (l : Int) ∧ Hid (∃ m, PlX (X3 (X2 (.slice (some ⟨g, 0, none⟩) ps.length c) ab) wv.heap.size w5.heap.size) w wz t (.slice (some ⟨g, 0, none⟩) ps.length c) ab ps x m ∧ Cl wv w5 t2 (kv ps) (X2 (.slice (some ⟨g, 0, none⟩) ps.length c) ab) w.heap.size wz)) (fun iv _ => ps.length - (intOf iv).toNat)
                  case atStart => exact ⟨0, Nat.zero_le _, rfl, H6⟩
                  case round =>
                    obtain ⟨l, hl9, rfl, hX9⟩ := hrel
                    clear H6
                    by_cases hll : l < ps.length
                    · have hlI : (l : Int) < (ps.length : Int) := by omega
                      obtain ⟨m9, p9, d9⟩ := hX9.out
                      obtain ⟨_, hrd9⟩ := p9.reads
                      obtain ⟨g9, e9, hcs⟩ := hrd9 (by omega)
                      obtain rfl : g = g9 := by injection e9 with e9; injection e9 with e9
                      have hcell9 := hcs l hll
                      have HD9 : Hid (Calls Try.prog 17 #[.pointer (some ⟨t, 0, none⟩), .string (ps[l]).1] (wr.alloc (.cells #[.string (ps[l]).1, .int .i64 (ps[l]).2] 33)) fun e w' => (∃ b, e = .returned (.bool b)) ∧ Hid (∃ m, PlX (X3 (X2 (.slice (some ⟨g, 0, none⟩) ps.length c) ab) wv.heap.size w5.heap.size) w w' t (.slice (some ⟨g, 0, none⟩) ps.length c) ab ps x m ∧ Cl wv w5 t2 (kv ps) (X2 (.slice (some ⟨g, 0, none⟩) ps.length c) ab) w.heap.size w')) := Lib.hid (by
                        have hb9 := (Below.refl _ wr).alloc (Nat.le_refl _) (.cells #[.string (ps[l]).1, .int .i64 (ps[l]).2] 33)
                        have p10 := p9.below hb9
                        refine (p10.2.1.drop p10.2.2.2.2.2.2 (ps[l]).1).mono ?_
                        rintro e w' ⟨rfl, h1, h2⟩
                        exact ⟨⟨_, rfl⟩, Lib.hid ⟨_, p10.turn h1 h2, d9.1, (d9.2.trans (Kept.below p9.2.2.2.2.2.2 p9.1.size hb9)).trans h1⟩⟩)
                      obtain ⟨hc91, hc92⟩ := hcell9
                      generalize (ps[l]).1 = s9 at hc91 HD9
                      generalize (ps[l]).2 = z9 at hc92 HD9
                      clear hX9 p9 d9 hrd9 hcs
                      go_wp2_with fail
                      refine HD9.out.mono ?_
                      rintro e w7 ⟨⟨b7, rfl⟩, H7⟩
                      clear HD9
                      go_wp2
                      go_roundw
                      case rel => exact ⟨l + 1, by omega, by go_num, H7⟩
                      case measure => simp [intOf]; omega
                    · obtain ⟨m9, p9, d9⟩ := hX9.out
                      have HB : Hid (PlB w wr t2 (.slice (some ⟨g, 0, none⟩) ps.length c) ps (k + 1)) := Lib.hid (p9.clone d9 HV9.out.1 HV9.out.2 rfl (by have := HPK.out; omega))
                      obtain rfl : l = ps.length := by omega
                      clear hX9 p9 d9
                      go_wp2_with fail
                      refine HB.out.len.mono ?_
                      rintro e w9 ⟨rfl, rfl⟩
                      go_wp2
                      go_roundw
                      case rel => exact ⟨k + 1, t2, _, _, c, by omega, by go_num, rfl, rfl, Lib.hid ⟨ps, rfl, HB.out⟩⟩
                      case measure => simp [intOf]; omega
              · go_wp2_with fail
                refine wp_region_still_lit (by kernel_rfl) (by kernel_rfl) ?_
                change wpStill _ _ (World.drew _) (fun a' => _) _ _
                repeat still_step
                refine wpStill_nil ?_
                change Exit.then _ _ Exit.normal _ (World.drew wr)
                go_wp2_with fail
                refine wp_region_still_lit (by kernel_rfl) (by kernel_rfl) ?_
                change wpStill _ _ (World.drew _) (fun a' => _) _ _
                repeat still_step
                refine wpStill_nil ?_
                change Exit.then _ _ Exit.normal _ (World.drew (World.drew wr))
                generalize hwv : World.drew (World.drew wr) = wv at HX2 ⊢
                obtain ⟨v0, v1, v2⟩ := HX2.out.reads.1
                clear hwv

                go_wp2_with fail
                refine (HT.out.put _ HX2.out).mono ?_
                rintro e w5 ⟨rfl, H5⟩
                obtain ⟨r5, r6, r7⟩ := H5.out.reads.1

                obtain ⟨b1, b2, n2, c2, a3, n3, k3, W3, a5, k5, W5, a6, k6, W6, hs1, hs2, hrun3, hb3, hrun5, hrun6, hm6, hb6⟩ := ins_list (W := w5) H5.out.2.2.1 hpc (by omega) j (by omega) x.key x.n
                have HB : Hid (PlB w W6 t (.slice a6 (ps.length + 1) k6) ((ps.take j ++ [(x.key, x.n)]) ++ ps.drop j) (k + 1)) := Lib.hid (H5.out.list HPUT.out hb6 hm6 (by rw [List.length_append, List.length_append, List.length_take, List.length_drop]; have := HPK.out; simp; omega))
                have HN : Hid (ps.length + 1 = ((ps.take j ++ [(x.key, x.n)]) ++ ps.drop j).length) := Lib.hid (by rw [List.length_append, List.length_append, List.length_take, List.length_drop]; simp; omega)
                obtain ⟨_, r8, r9⟩ := (H5.out.below hb3).reads.1
                have hl8 := World.block_lt_of_cell? W3 _ r8
                have hl5 := World.block_lt_of_cell? w5 _ r5
                clear HT HPUT HDROP HX2 H5 hm6 hb6 hb3
                go_wp2_with (refine list_run rfl (.tmp 75) (.tmp 78) 26 rfl (.slice (some ⟨w5.heap.size, 0, none⟩) 0 0) (.slice b2 n2 c2) (by simp [Act.eval]) (by simp [Act.eval]) hrun3 ?_)
                go_region_law (first
                  | (refine step_run rfl (.tmp 83) (.tmp 89) 26 rfl (.slice b1 j j) (.slice (some ⟨W3.heap.size, 0, none⟩) 1 1) (by simp [Act.eval, Act.put]) (by simp [Act.eval, Act.put]) hrun5 ?_)
                  | (refine step_run rfl (.tmp 90) (.tmp 91) 26 rfl (.slice a5 (j + 1) k5) (.slice a3 n3 k3) (by simp [Act.eval]) (by simp [Act.eval]) hrun6 ?_))
                all_goals
                  have HB1 := Lib.hid HB.out.len
                  rw [← HN.out] at HB1
                  go_wp2_with fail
                  refine HB1.out.mono ?_
                  rintro e w9 ⟨rfl, rfl⟩
                  go_wp2
                  go_roundw
                  case rel => exact ⟨k + 1, t, _, _, k6, by omega, by go_num, rfl, rfl, Lib.hid ⟨_, HN.out, HB.out⟩⟩
                  case measure => simp [intOf]; omega
    · obtain rfl : k = la := by omega
      obtain ⟨ps, rfl, q0⟩ := hst.out
      have HF : Hid (PlayP w k (.returned (.tuple #[.pointer (some ⟨t, 0, none⟩), .slice a2 ps.length c, .bool true])) wr) := Lib.hid ⟨t, a2, c, ps, rfl, q0⟩
      clear hst q0
      go_wp2
      exact bodyPost_ret (v := .tuple #[.pointer (some ⟨t, 0, none⟩), .slice a2 ps.length c, .bool true]) (by simp [results, Try.results11, go_sem]) rfl HF.out

end Go.Proofs.Ytkohmiegkebmeaa.tP
