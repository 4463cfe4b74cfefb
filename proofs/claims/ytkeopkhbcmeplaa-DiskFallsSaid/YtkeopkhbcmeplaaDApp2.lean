/-
  disk.Append.
-/
import Derived.Test.YtkeopkhbcmeplaaDApp
namespace Go.Proofs.Ytkeopkhbcmeplaa
open Go.RowKit

def nameB (s : ByteArray) : Bool := !s.toList.isEmpty && decide ((s.size : Int) ≤ 40)

/-- the file that Append lays -/
def apF (fs : List FP) (k : L8) (b : L8) : FileS := match getP k fs with | some p => ⟨k, p.1.data ++ b, p.1.safe⟩ | none => ⟨k, b, 0⟩

/-- Append: the answer; whether a file is laid; the disk beside it -/
def apR (S : DS) (s : ByteArray) (b : ByteArray) : Int × Bool :=
  if S.turn.1 = false then (8, false) else if nameB s = false then (1, false) else if S.room - S.used < (b.size : Int) then (7, false) else (0, true)

def ApPost (w : World) (B d mb n : Nat) (S : DS) (fs : List FP) (s b : ByteArray) (w' : World) : Prop :=
  ((apR S s b).2 = false ∧ DiskAt w' B d mb n S.turn.2 fs ∨
   (apR S s b).2 = true ∧ ∃ sv, DiskAt w' B d mb (n + 1) { S.turn.2 with used := S.used + (b.size : Int) } (putP (apF fs s.data.toList b.data.toList, sv) fs) ∧ ∀ q, sv.ownBlock = some q → Foot d mb fs q ∨ w.heap.size ≤ q) ∧ DKept w w' (Foot d mb fs)

section
attribute [-go_sem] Builtin.append_
set_option maxHeartbeats 4000000 in
set_option maxRecDepth 100000 in
theorem append_any {B d mb n : Nat} {S : DS} {fs : List FP} (w : World) (h : DiskAt w B d mb n S fs) (hBw : B ≤ w.heap.size) (s b : ByteArray) (hs : s.size ≤ maxLen) (hl0 : 0 ≤ S.left) (hl1 : S.left ≤ 9223372036854775807) (hn : n < 1000000)
    (hu1 : 0 ≤ S.used) (hu2 : S.used ≤ 100000000) (hr1 : 0 ≤ S.room) (hr2 : S.room ≤ 100000000) (hl : (lenOf s.data.toList fs : Int) ≤ S.used) :
    Calls Try.prog 20 #[.pointer (some ⟨d, 0, none⟩), .string s, .string b] w fun e w' => e = .returned (.int .i64 (apR S s b).1) ∧ ApPost w B d mb n S fs s b w' := by
  have HT := Lib.hid (turn_any w h hl0 hl1)
  have hU := (turn_files (S := S)).1
  have hRm := (turn_files (S := S)).2
  have hNm := isName_any s
  rw [show (!s.toList.isEmpty && decide ((s.size : Int) ≤ 40)) = nameB s from rfl] at hNm
  obtain ⟨R, hR⟩ : ∃ R, R = apR S s b := ⟨_, rfl⟩
  have HR : Hid (R = if S.turn.1 = false then ((8 : Int), false) else if nameB s = false then (1, false) else if S.room - S.used < (b.size : Int) then (7, false) else (0, true)) := Lib.hid hR
  have HPost : Hid (∀ w', (R.2 = false ∧ DiskAt w' B d mb n S.turn.2 fs ∨ R.2 = true ∧ ∃ sv, DiskAt w' B d mb (n + 1) { S.turn.2 with used := S.used + (b.size : Int) } (putP (apF fs s.data.toList b.data.toList, sv) fs) ∧ ∀ q, sv.ownBlock = some q → Foot d mb fs q ∨ w.heap.size ≤ q) ∧ DKept w w' (Foot d mb fs) → ApPost w B d mb n S fs s b w') := Lib.hid fun w' hh => by unfold ApPost; rw [← hR]; exact hh
  rw [← hR]
  obtain ⟨T, hT⟩ : ∃ T, T = S.turn := ⟨_, rfl⟩
  rw [← hT] at HT hU hRm HR HPost
  have HNM := Lib.hid hNm
  clear hT h hR hNm
  obtain ⟨tb, T2⟩ := T
  simp only at HT HR hU hRm HPost
  cases tb
  · go_enter Try.func20, Try.ntmps20
    go_wp2_with fail
    refine HT.out.mono ?_
    rintro e w1 ⟨rfl, hD1, hK1⟩
    have HD1 := Lib.hid (And.intro hD1 hK1)
    clear hD1 hK1
    go_wp2
    go_ret
    exact ⟨by rw [HR.out]; rfl, HPost.out _ ⟨.inl ⟨by rw [HR.out]; rfl, HD1.out.1⟩, HD1.out.2⟩⟩
  · cases hnb : nameB s
    · rw [hnb] at HR HNM
      clear hnb
      go_enter Try.func20, Try.ntmps20
      go_wp2_with fail
      refine HT.out.mono ?_
      rintro e w1 ⟨rfl, hD1, hK1⟩
      have HD1 := Lib.hid (And.intro hD1 hK1)
      clear hD1 hK1
      go_wp2_with fail
      refine (HNM.out _).mono ?_
      rintro e w2 ⟨rfl, rfl⟩
      go_wp2
      go_ret
      exact ⟨by rw [HR.out]; rfl, HPost.out _ ⟨.inl ⟨by rw [HR.out]; rfl, HD1.out.1⟩, HD1.out.2⟩⟩
    · rw [hnb] at HR HNM
      clear hnb
      by_cases hroom : S.room - S.used < (b.size : Int)
      · have HR2 : Hid (R = (7, false)) := Lib.hid (by rw [HR.out, if_neg (by simp), if_neg (by simp), if_pos hroom])
        have hroom' : T2.room - T2.used < (b.size : Int) := by rw [hRm, hU]; exact hroom
        clear hroom
        go_enter Try.func20, Try.ntmps20
        go_wp2_with fail
        refine HT.out.mono ?_
        rintro e w1 ⟨rfl, hD1, hK1⟩
        have HD1 := Lib.hid (And.intro hD1 hK1)
        clear hD1 hK1
        go_wp2_with fail
        refine (HNM.out _).mono ?_
        rintro e w2 ⟨rfl, rfl⟩
        have HRM := Lib.hid (room_any w1 HD1.out.1 (by rw [hU]; exact hu1) (by rw [hU]; omega) (by rw [hRm]; exact hr1) (by rw [hRm]; omega))
        go_wp2_with fail
        refine HRM.out.mono ?_
        rintro e w3 ⟨rfl, q3, rfl⟩
        go_wp2
        go_ret
        exact ⟨by rw [HR2.out]; rfl, HPost.out _ ⟨.inl ⟨by rw [HR2.out], HD1.out.1.keep fun q _ => rfl⟩, HD1.out.2.trans ⟨rfl, rfl, rfl, Nat.le_refl _, fun _ _ _ => rfl⟩⟩⟩
      · have HR2 : Hid (R = (0, true)) := Lib.hid (by rw [HR.out, if_neg (by simp), if_neg (by simp), if_neg hroom])
        have hroom' : ¬ T2.room - T2.used < (b.size : Int) := by rw [hRm, hU]; exact hroom
        have hroom3 : (b.size : Int) ≤ T2.room - T2.used := by omega
        clear hroom
        go_enter Try.func20, Try.ntmps20
        go_wp2_with fail
        refine HT.out.mono ?_
        rintro e w1 ⟨rfl, hD1, hK1⟩
        have HD1 := Lib.hid (And.intro hD1 hK1)
        clear hD1 hK1
        go_wp2_with fail
        refine (HNM.out _).mono ?_
        rintro e w2 ⟨rfl, rfl⟩
        have HRM := Lib.hid (room_any w1 HD1.out.1 (by rw [hU]; exact hu1) (by rw [hU]; omega) (by rw [hRm]; exact hr1) (by rw [hRm]; omega))
        go_wp2_with fail
        refine HRM.out.mono ?_
        rintro e w3 ⟨rfl, q3, rfl⟩
        have hD3 : DiskAt (w1.drewN q3) B d mb n T2 fs := HD1.out.1.keep fun q _ => rfl
        have hK3 : DKept w (w1.drewN q3) (Foot d mb fs) := HD1.out.2.trans ⟨rfl, rfl, rfl, Nat.le_refl _, fun _ _ _ => rfl⟩
        generalize w1.drewN q3 = W1 at hD3 hK3
        clear HD1 HRM
        obtain ⟨⟨b0, b1, b2, b3, b4, b5⟩, _⟩ := Box.six hD3.1
        obtain ⟨a, c, l, sf, hlk, hrow, hnd, hnm, hoth, hlen, hget⟩ := look_any hD3 s hs
        have hBW : B ≤ W1.heap.size := Nat.le_trans hBw hK3.2.2.2.1
        obtain ⟨v', w4, hrun, hown4, hup4, hold4⟩ := app_both (W1.alloc (.cells #[.slice a l.length c, .int .i64 sf] 69)) B 55 (.slice a l.length c) l (World.ownsRow.alloc hrow _) b (by omega) (by simp; omega)
        have hD4 : DiskAt w4 B d mb n T2 fs := (hD3.alloc (.cells #[.slice a l.length c, .int .i64 sf] 69)).upd hup4 hnd hnm (by
          rcases hget with ⟨_, _, _, ha⟩ | ⟨p, hg, e1, _, e2⟩
          · exact .inl (by rw [ha]; rfl)
          · exact .inr ⟨p, (getP_name hg).2, e2, by rw [← e1]; exact hold4⟩)
        obtain ⟨a', c', e4⟩ := Bs.lenEq hown4
        have hL4 : (l ++ b.data.toList).length = l.length + b.size := by rw [List.length_append, Array.length_toList]; rfl
        rw [hL4] at e4
        subst e4
        have hltb : W1.heap.size < (W1.alloc (.cells #[.slice a l.length c, .int .i64 sf] 69)).heap.size := by simp
        have hnb1 : some W1.heap.size ≠ (Value.slice a l.length c).ownBlock := fun e => by have := (World.ownsRow.lt hrow _ e.symm).2; omega
        have hbox4 : w4.heap[W1.heap.size]? = some (.cells #[.slice a l.length c, .int .i64 sf] 69 (0, 0)) := (hup4.1.block W1.heap.size hltb hnb1).trans (heap_alloc_new W1 _)
        have t0 : w4.cell? ⟨W1.heap.size, 0, none⟩ = some (.slice a l.length c) := cell_of_row w4 _ 0 _ _ (0, 0) hbox4
        have t1 : w4.cell? ⟨W1.heap.size, 1, none⟩ = some (.int .i64 sf) := cell_of_row w4 _ 1 _ _ (0, 0) hbox4
        have u0 : w4.frozen? ⟨W1.heap.size, 0, none⟩ = false := by simp [World.frozen?, hbox4]
        have hlt5 : ∀ q, Foot d mb fs q → q ≠ W1.heap.size := fun q hq e => by have := hD3.foot_lt q hq; omega
        have hown5 : (Value.slice a' (l.length + b.size) c').ownBlock ≠ some W1.heap.size := fun e => by
          rcases hup4.2 with h9 | h9
          · rw [h9] at e; exact hnb1 e.symm
          · have := h9 _ e; omega
        have hD5 : DiskAt (w4.setCell ⟨W1.heap.size, 0, none⟩ (.slice a' (l.length + b.size) c')) B d mb n T2 fs := hD4.keep fun q hq => Below.heap_setCell w4 ⟨W1.heap.size, 0, none⟩ _ q (hlt5 q hq)
        have hR5 : Bs 5 B (w4.setCell ⟨W1.heap.size, 0, none⟩ (.slice a' (l.length + b.size) c')) (.slice a' (l.length + b.size) c') (l ++ b.data.toList) := bs_keep hown4 fun q hq => Below.heap_setCell w4 ⟨W1.heap.size, 0, none⟩ _ q (fun e => hown5 (by rw [hq, e]))
        have hne5 : ∀ q, q < W1.heap.size + 1 → (Value.slice a l.length c).ownBlock ≠ some q → (Value.slice a' (l.length + b.size) c').ownBlock ≠ some q := fun q hq hne e => by
          rcases hup4.2 with h9 | h9
          · rw [h9] at e; exact hne e
          · have h10 := h9 _ e
            have h11 : (W1.alloc (.cells #[.slice a l.length c, .int .i64 sf] 69)).heap.size = W1.heap.size + 1 := by simp
            omega
        have hnd5 := hne5 d (by have := hD3.foot_lt d (.inl rfl); omega) hnd
        have hnm5 := hne5 mb (by have := hD3.foot_lt mb (.inr (.inl rfl)); omega) hnm
        have hoth5 : ∀ q ∈ delP s.data.toList fs, (Value.slice a' (l.length + b.size) c').ownBlock = none ∨ (Value.slice a' (l.length + b.size) c').ownBlock ≠ q.2.ownBlock := fun q hq => by
          by_cases h0 : q.2.ownBlock = none
          · by_cases h1 : (Value.slice a' (l.length + b.size) c').ownBlock = none
            · exact .inl h1
            · exact .inr (by rw [h0]; exact h1)
          · obtain ⟨g, hg⟩ := Option.ne_none_iff_exists'.1 h0
            refine .inr ?_
            rw [hg]
            refine hne5 g (by have := hD3.foot_lt g (.inr (.inr ⟨q, delP_mem hq, hg⟩)); omega) ?_
            rcases hoth q hq with h2 | h2
            · rw [h2]; simp
            · rw [← hg]; exact h2
        have hput := put_any _ hD5 s hs ⟨s.data.toList, l ++ b.data.toList, sf⟩ rfl a' c' hn (by rw [hL4]; exact hR5) (by rw [hL4]; exact hnd5) (by rw [hL4]; exact hnm5) (by rw [hL4]; exact hoth5) (by rw [hU]; omega) (by rw [hL4]; omega) (by rw [hU]; exact hl)
        simp only at hput
        rw [hL4] at hput
        have HPUT := Lib.hid hput
        have HUP := Lib.hid hup4
        have HK3 := Lib.hid hK3
        have HGET := Lib.hid hget
        have HLEN := Lib.hid hlen
        have HD3 := Lib.hid hD3
        have HNB := Lib.hid (And.intro hnd hnm)
        clear hput hup4 hK3 hget hlen hD3 hD4 hD5 hR5 hne5 hnd5 hnm5 hoth5 hown5 hlt5 hnb1 hbox4 hown4 hold4 hrow hoth hnd hnm hL4
        go_wp2_with fail
        refine HPUT.out.mono ?_
        rintro e w5 ⟨rfl, hD6, hK6⟩
        have HD6 := Lib.hid hD6
        have HK6 := Lib.hid hK6
        clear hD6 hK6
        go_wp2
        go_ret
        have hfoot : ∀ q, (Value.slice a' (l.length + b.size) c').ownBlock = some q → Foot d mb fs q ∨ w.heap.size ≤ q := fun q hq => by
          rcases HUP.out.2 with h9 | h9
          · rw [h9] at hq
            rcases HGET.out with ⟨_, _, _, g4⟩ | ⟨p, g1, _, _, g4⟩
            · rw [g4] at hq; cases hq
            · exact .inl (.inr (.inr ⟨p, (getP_name g1).2, by rw [g4]; exact hq⟩))
          · have h10 := h9 q hq
            have h11 : (W1.alloc (.cells #[.slice a l.length c, .int .i64 sf] 69)).heap.size = W1.heap.size + 1 := by simp
            have h12 := HK3.out.2.2.2.1
            exact .inr (by omega)
        refine ⟨by rw [HR2.out]; rfl, HPost.out _ ⟨.inr ⟨by rw [HR2.out], .slice a' (l.length + b.size) c', ?_, hfoot⟩, ?_⟩⟩
        · have h9 := HD6.out
          have e1 : apF fs s.data.toList b.data.toList = ⟨s.data.toList, l ++ b.data.toList, sf⟩ := by
            unfold apF
            rcases HGET.out with ⟨g1, g2, g3, _⟩ | ⟨p, g1, g2, g3, _⟩
            · rw [g1, g2, g3]; rfl
            · rw [g1, g2, g3]
          have e2 : T2.used + (((l.length + b.size : Nat) : Int) - (lenOf s.data.toList fs : Int)) = S.used + (b.size : Int) := by rw [HLEN.out, hU]; omega
          rw [e1]
          rw [e2] at h9
          exact h9
        · have k1 : DKept W1 w5 (Foot d mb fs) := by
            have hz4 := HUP.out.1.size
            have hzA : (W1.alloc (.cells #[.slice a l.length c, .int .i64 sf] 69)).heap.size = W1.heap.size + 1 := by simp
            have hz5 : (w4.setCell ⟨W1.heap.size, 0, none⟩ (.slice a' (l.length + b.size) c')).heap.size = w4.heap.size := by simp [World.setCell]
            have k6 := HK6.out
            refine ⟨k6.1.trans HUP.out.1.os, k6.2.1.trans HUP.out.1.tape, k6.2.2.1.trans HUP.out.1.output, by have := k6.2.2.2.1; omega, fun q hq hf => ?_⟩
            refine (k6.2.2.2.2 q (by omega) hf).trans ((Below.heap_setCell w4 ⟨W1.heap.size, 0, none⟩ _ q (by show q ≠ W1.heap.size; omega)).trans ((HUP.out.1.block q (by omega) ?_).trans (Below.heap_alloc W1 _ q hq)))
            intro e
            rcases HGET.out with ⟨_, _, _, g4⟩ | ⟨p, g1, _, _, g4⟩
            · rw [g4] at e; cases e
            · exact hf (.inr (.inr ⟨p, (getP_name g1).2, by rw [g4]; exact e.symm⟩))
          exact HK3.out.trans k1
end

end Go.Proofs.Ytkeopkhbcmeplaa
