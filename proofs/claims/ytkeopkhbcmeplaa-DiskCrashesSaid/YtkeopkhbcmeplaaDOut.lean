/-
  Each act of a disk does what the model's does.
-/
import Derived.Test.YtkeopkhbcmeplaaDAct
import Derived.Test.YtkeopkhbcmeplaaDFall
import Derived.Test.YtkeopkhbcmeplaaDCr
namespace Go.Proofs.Ytkeopkhbcmeplaa
open Go.RowKit

/-- behind an act: the answer is the model's, and the disk has just the model's files -/
def Out (w w' : World) (B d mb n : Nat) (fs : List FP) (a : Int × MS) (c : Int) : Prop :=
  ∃ S' fs' m, c = a.1 ∧ MS.of S' (fl fs') = a.2 ∧ Inv S' (fl fs') ∧ fs'.length ≤ fs.length + 1 ∧ m ≤ n + 1 ∧ DiskAt w' B d mb m S' fs' ∧ DKept w w' (Foot d mb fs) ∧ ∀ q, Foot d mb fs' q → Foot d mb fs q ∨ w.heap.size ≤ q

/-- a file laid: where it lies, or in a new block -/
theorem foot_put {d mb N : Nat} {fs gs : List FP} {x : FP} (hx : ∀ q, x.2.ownBlock = some q → Foot d mb gs q ∨ N ≤ q) (hfs : ∀ q, Foot d mb fs q → Foot d mb gs q) : ∀ q, Foot d mb (putP x fs) q → Foot d mb gs q ∨ N ≤ q := fun q hq => by
  rcases hq with rfl | rfl | ⟨p, hp, hq⟩
  · exact .inl (.inl rfl)
  · exact .inl (.inr (.inl rfl))
  · rcases insP_mem hp with rfl | hp
    · exact hx q hq
    · exact .inl (hfs q (.inr (.inr ⟨p, delP_mem hp, hq⟩)))
theorem foot_del {d mb : Nat} {fs : List FP} {k : L8} : ∀ q, Foot d mb (delP k fs) q → Foot d mb fs q := fun q hq => by
  rcases hq with rfl | rfl | ⟨p, hp, hq⟩
  · exact .inl rfl
  · exact .inr (.inl rfl)
  · exact .inr (.inr ⟨p, delP_mem hp, hq⟩)

theorem of_files (S S' : DS) (gs gs' : List FileS) (h1 : S'.room = S.room) (h2 : S'.down = S.down) (h3 : S'.falls = S.falls) (h4 : S'.left = S.left) : MS.of S' gs' = { MS.of S gs with files := gs' } := by
  unfold MS.of
  rw [h1, h2, h3, h4]

/-- with a turn ahead -/
def turned (M : MS) (f : MS → Int × MS) : Int × MS := if M.turn.1 = false then (8, M.turn.2) else f M.turn.2

theorem turned_no {S : DS} {gs : List FileS} (h : Inv S gs) (c : S.turn.1 = false) (f : MS → Int × MS) : turned (MS.of S gs) f = (8, MS.of S.turn.2 gs) := by
  unfold turned
  rw [turn_rel h]
  exact if_pos c
theorem turned_yes {S : DS} {gs : List FileS} (h : Inv S gs) (c : ¬ S.turn.1 = false) (f : MS → Int × MS) : turned (MS.of S gs) f = f (MS.of S.turn.2 gs) := by
  unfold turned
  rw [turn_rel h]
  exact if_neg c

theorem app_out {B d mb n : Nat} {S : DS} {fs : List FP} (w : World) (h : DiskAt w B d mb n S fs) (hI : Inv S (fl fs)) (s b : ByteArray) (hs : s.size ≤ maxLen) (hn : n < 1000000) :
    Calls Try.prog 20 #[.pointer (some ⟨d, 0, none⟩), .string s, .string b] w fun e w' => ∃ c, e = .returned (.int .i64 c) ∧ Out w w' B d mb n fs (turned (MS.of S (fl fs)) fun M => M.app s b) c := by
  obtain ⟨t1, t2, t3, t4, t5, t6, t7, t8⟩ := S.turn_eq
  have hI1 := hI.turn
  have h2 := hI.used
  have h6 := hI.room0
  have h7 := hI.room1
  have h8 := hI.fits
  have hB : B ≤ w.heap.size := by have := h.foot_ge d (.inl rfl); have := h.foot_lt d (.inl rfl); omega
  refine (append_any w h hB s b hs hI.left0 hI.left1 hn (by omega) (by omega) h6 (by omega) (hI.lenOf_le _)).mono ?_
  rintro e w' ⟨rfl, hp, hk⟩
  refine ⟨_, rfl, ?_⟩
  have hroom : (MS.of S.turn.2 (fl fs)).room = S.room - S.used := by
    show S.turn.2.room - _ = _
    rw [t2, h2]; rfl
  by_cases c1 : S.turn.1 = false
  · have e1 : apR S s b = (8, false) := by unfold apR; rw [if_pos c1]
    rw [e1] at hp
    rw [e1, turned_no hI c1]
    rcases hp with ⟨_, hD⟩ | ⟨hf, _⟩
    · exact ⟨S.turn.2, fs, n, rfl, rfl, hI1, by omega, by omega, hD, hk, fun _ hq => .inl hq⟩
    · cases hf
  rw [turned_yes hI c1]
  unfold MS.app
  by_cases c2 : nameB s = false
  · have e1 : apR S s b = (1, false) := by unfold apR; rw [if_neg c1, if_pos c2]
    rw [e1] at hp
    rw [e1, if_pos c2]
    rcases hp with ⟨_, hD⟩ | ⟨hf, _⟩
    · exact ⟨S.turn.2, fs, n, rfl, rfl, hI1, by omega, by omega, hD, hk, fun _ hq => .inl hq⟩
    · cases hf
  rw [if_neg c2, hroom]
  by_cases c3 : S.room - S.used < (b.size : Int)
  · have e1 : apR S s b = (7, false) := by unfold apR; rw [if_neg c1, if_neg c2, if_pos c3]
    rw [e1] at hp
    rw [e1, if_pos c3]
    rcases hp with ⟨_, hD⟩ | ⟨hf, _⟩
    · exact ⟨S.turn.2, fs, n, rfl, rfl, hI1, by omega, by omega, hD, hk, fun _ hq => .inl hq⟩
    · cases hf
  · have e1 : apR S s b = (0, true) := by unfold apR; rw [if_neg c1, if_neg c2, if_neg c3]
    rw [e1] at hp
    rw [e1, if_neg c3]
    rcases hp with ⟨hf, _⟩ | ⟨_, sv, hD, hft⟩
    · cases hf
    · have hF : apF fs (bl s) (bl b) = { mfile (bl s) (fl fs) with data := (mfile (bl s) (fl fs)).data ++ bl b } := by
        unfold apF
        rcases get_model hI (bl s) with ⟨g1, _, g2⟩ | ⟨p, g1, _, g2, g3, _⟩
        · rw [g1, g2]; rfl
        · rw [g1, g2]
          show FileS.mk (bl s) _ _ = FileS.mk p.1.name _ _
          rw [g3]
      have hN : (apF fs (bl s) (bl b)).name = bl s := by
        rw [hF]; exact mfile_name hI.rise
      have hsafe : (apF fs (bl s) (bl b)).safe ≤ (apF fs (bl s) (bl b)).data.length ∧ ((apF fs (bl s) (bl b)).data.length : Int) = lenOf (bl s) fs + (b.size : Int) := by
        unfold apF lenOf
        cases hg : getP (bl s) fs with
        | none => exact ⟨Nat.zero_le _, by simp [bl_length]⟩
        | some p =>
          have := hI.safe _ (mem_fl (getP_name hg).2)
          refine ⟨?_, ?_⟩
          · show p.1.safe ≤ (p.1.data ++ bl b).length
            rw [List.length_append]; omega
          · show ((p.1.data ++ bl b).length : Int) = p.1.data.length + (b.size : Int)
            rw [List.length_append, bl_length]; omega
      refine ⟨_, _, n + 1, rfl, ?_, hI1.put (S' := { S.turn.2 with used := S.used + (b.size : Int) }) (apF fs (bl s) (bl b), sv) hsafe.1 (by show (apF fs (bl s) (bl b)).name.length ≤ 40; rw [hN]; exact short_of_name c2) rfl rfl ?_ ?_, putP_length _ _, Nat.le_refl _, hD, hk, foot_put hft (fun _ h => h)⟩
      · rw [of_files S.turn.2 { S.turn.2 with used := S.used + (b.size : Int) } (fl fs) _ rfl rfl rfl rfl, fl_put]
        show MS.mk _ _ _ _ = MS.mk _ _ _ _
        congr 1
        show putF (apF fs (bl s) (bl b)) (fl fs) = _
        rw [(at_place (bl s) hI.rise).2.2 _ hN]
        unfold mput
        show _ = hd (mfile (bl s) (fl fs)).name (fl fs) ++ _ :: tl2 (mfile (bl s) (fl fs)).name (fl fs)
        rw [mfile_name hI.rise, hF]
        rfl
      · show S.used + (b.size : Int) = S.turn.2.used + (((apF fs (bl s) (bl b)).data.length : Int) - lenOf (apF fs (bl s) (bl b)).name fs)
        rw [hN, hsafe.2, t3]; omega
      · show S.used + (b.size : Int) ≤ S.turn.2.room
        rw [t2]; omega

theorem sync_out {B d mb n : Nat} {S : DS} {fs : List FP} (w : World) (h : DiskAt w B d mb n S fs) (hI : Inv S (fl fs)) (s : ByteArray) (hs : s.size ≤ maxLen) (hn : n < 1000000) :
    Calls Try.prog 25 #[.pointer (some ⟨d, 0, none⟩), .string s] w fun e w' => ∃ c, e = .returned (.int .i64 c) ∧ Out w w' B d mb n fs (turned (MS.of S (fl fs)) fun M => M.sync s) c := by
  obtain ⟨t1, t2, t3, t4, t5, t6, t7, t8⟩ := S.turn_eq
  have hI1 := hI.turn
  have h7 := hI.room1
  have h8 := hI.fits
  refine (sync_any w h s hs hI.left0 hI.left1 hn (by omega) (hI.lenOf_le _)).mono ?_
  rintro e w' ⟨rfl, ⟨m, hm, hD⟩, hk⟩
  refine ⟨_, rfl, ?_⟩
  by_cases c1 : S.turn.1 = false
  · have e1 : syR S fs (bl s) = (8, S.turn.2, fs) := by unfold syR; rw [if_pos c1]
    rw [show s.data.toList = bl s from rfl, e1] at hD
    rw [show s.data.toList = bl s from rfl, e1, turned_no hI c1]
    exact ⟨S.turn.2, fs, m, rfl, rfl, hI1, by omega, hm, hD, hk, fun _ hq => .inl hq⟩
  rw [turned_yes hI c1]
  unfold MS.sync
  rcases get_model hI (bl s) with ⟨g1, g2, _⟩ | ⟨p, g1, g2, g3, g4, g5⟩
  · have e1 : syR S fs (bl s) = (5, S.turn.2, fs) := by unfold syR; rw [if_neg c1, g1]
    rw [show s.data.toList = bl s from rfl, e1] at hD
    rw [show s.data.toList = bl s from rfl, e1]
    show Out w w' B d mb n fs (if isAt (bl s) (fl fs) = false then _ else _) 5
    rw [if_pos g2]
    exact ⟨S.turn.2, fs, m, rfl, rfl, hI1, by omega, hm, hD, hk, fun _ hq => .inl hq⟩
  · have e1 : syR S fs (bl s) = (0, { S.turn.2 with used := S.turn.2.used + ((p.1.data.length : Int) - lenOf (bl s) fs) }, putP (⟨bl s, p.1.data, p.1.data.length⟩, p.2) fs) := by unfold syR; rw [if_neg c1, g1]
    rw [show s.data.toList = bl s from rfl, e1] at hD
    rw [show s.data.toList = bl s from rfl, e1]
    show Out w w' B d mb n fs (if isAt (bl s) (fl fs) = false then _ else _) 0
    rw [if_neg (by rw [g2]; simp)]
    have hl : lenOf (bl s) fs = p.1.data.length := by unfold lenOf; rw [g1]
    refine ⟨_, _, m, rfl, ?_, hI1.put (S' := { S.turn.2 with used := S.turn.2.used + ((p.1.data.length : Int) - lenOf (bl s) fs) }) (⟨bl s, p.1.data, p.1.data.length⟩, p.2) (Nat.le_refl _) (hI.get_short g1) rfl rfl rfl ?_, putP_length _ _, hm, hD, hk, foot_put (fun q hq => .inl (.inr (.inr ⟨p, g5, hq⟩))) (fun _ h => h)⟩
    · rw [of_files S.turn.2 { S.turn.2 with used := S.turn.2.used + ((p.1.data.length : Int) - lenOf (bl s) fs) } (fl fs) _ rfl rfl rfl rfl, fl_put]
      show MS.mk _ _ _ _ = MS.mk _ _ _ _
      congr 1
      show putF ⟨bl s, p.1.data, p.1.data.length⟩ (fl fs) = hd (bl s) (fl fs) ++ FileS.mk (mfile (bl s) (fl fs)).name (mfile (bl s) (fl fs)).data (mfile (bl s) (fl fs)).data.length :: tl2 (bl s) (fl fs)
      rw [(at_place (bl s) hI.rise).2.2 _ rfl, g3, g4]
    · show S.turn.2.used + ((p.1.data.length : Int) - lenOf (bl s) fs) ≤ S.turn.2.room
      rw [hl, t2, t3]; omega

theorem ren_out {B d mb n : Nat} {S : DS} {fs : List FP} (w : World) (h : DiskAt w B d mb n S fs) (hI : Inv S (fl fs)) (s t : ByteArray) (hs : s.size ≤ maxLen) (ht : t.size ≤ maxLen) (hn : n < 1000000) :
    Calls Try.prog 26 #[.pointer (some ⟨d, 0, none⟩), .string s, .string t] w fun e w' => ∃ c, e = .returned (.int .i64 c) ∧ Out w w' B d mb n fs (turned (MS.of S (fl fs)) fun M => M.ren s t) c := by
  obtain ⟨t1, t2, t3, t4, t5, t6, t7, t8⟩ := S.turn_eq
  have hI1 := hI.turn
  have h7 := hI.room1
  have h8 := hI.fits
  have hd1 := hI.del (S' := { S with used := S.used - lenOf (bl s) fs }) (bl s) rfl rfl rfl
  have hd2 : (lenOf (bl t) (delP (bl s) fs) : Int) ≤ S.used - lenOf (bl s) fs := hd1.lenOf_le (bl t)
  refine (rename_any w h s t hs ht hI.left0 hI.left1 hn (by omega) (hI.lenOf_le _) hd2).mono ?_
  rintro e w' ⟨rfl, ⟨m, hm, hD⟩, hk⟩
  refine ⟨_, rfl, ?_⟩
  rw [show s.data.toList = bl s from rfl] at hD ⊢
  by_cases c1 : S.turn.1 = false
  · have e1 : rnR S fs (bl s) t = (8, S.turn.2, fs) := by unfold rnR; rw [if_pos c1]
    rw [e1] at hD
    rw [e1, turned_no hI c1]
    exact ⟨S.turn.2, fs, m, rfl, rfl, hI1, by omega, hm, hD, hk, fun _ hq => .inl hq⟩
  rw [turned_yes hI c1]
  unfold MS.ren
  by_cases c2 : nameB t = false
  · have e1 : rnR S fs (bl s) t = (1, S.turn.2, fs) := by unfold rnR; rw [if_neg c1, if_pos c2]
    rw [e1] at hD
    rw [e1, if_pos c2]
    exact ⟨S.turn.2, fs, m, rfl, rfl, hI1, by omega, hm, hD, hk, fun _ hq => .inl hq⟩
  rw [if_neg c2]
  rcases get_model hI (bl s) with ⟨g1, g2, _⟩ | ⟨p, g1, g2, g3, g4, g5⟩
  · have e1 : rnR S fs (bl s) t = (5, S.turn.2, fs) := by unfold rnR; rw [if_neg c1, if_neg c2, g1]
    rw [e1] at hD
    rw [e1]
    show Out w w' B d mb n fs (if isAt (bl s) (fl fs) = false then _ else _) 5
    rw [if_pos g2]
    exact ⟨S.turn.2, fs, m, rfl, rfl, hI1, by omega, hm, hD, hk, fun _ hq => .inl hq⟩
  · have e1 : rnR S fs (bl s) t = (0, { S.turn.2 with used := S.turn.2.used - lenOf (bl s) fs + ((p.1.data.length : Int) - lenOf t.data.toList (delP (bl s) fs)) }, putP (⟨t.data.toList, p.1.data, p.1.safe⟩, p.2) (delP (bl s) fs)) := by unfold rnR; rw [if_neg c1, if_neg c2, g1]
    rw [e1] at hD
    rw [e1]
    show Out w w' B d mb n fs (if isAt (bl s) (fl fs) = false then _ else _) 0
    rw [if_neg (by rw [g2]; simp)]
    have hl : lenOf (bl s) fs = p.1.data.length := by unfold lenOf; rw [g1]
    have hdI := hI1.del (S' := { S.turn.2 with used := S.turn.2.used - lenOf (bl s) fs }) (bl s) rfl rfl rfl
    refine ⟨_, _, m, rfl, ?_, hdI.put (S' := { S.turn.2 with used := S.turn.2.used - lenOf (bl s) fs + ((p.1.data.length : Int) - lenOf t.data.toList (delP (bl s) fs)) }) (⟨t.data.toList, p.1.data, p.1.safe⟩, p.2) (show p.1.safe ≤ p.1.data.length from hI.safe _ (mem_fl g5)) (short_of_name c2) rfl rfl rfl ?_, ?_, hm, hD, hk, foot_put (fun q hq => .inl (.inr (.inr ⟨p, g5, hq⟩))) foot_del⟩
    · rw [of_files S.turn.2 { S.turn.2 with used := S.turn.2.used - lenOf (bl s) fs + ((p.1.data.length : Int) - lenOf t.data.toList (delP (bl s) fs)) } (fl fs) _ rfl rfl rfl rfl, fl_put, fl_del]
      show MS.mk _ _ _ _ = MS.mk _ _ _ _
      congr 1
      show putF ⟨bl t, p.1.data, p.1.safe⟩ (delF (bl s) (fl fs)) = mput { mfile (bl s) (fl fs) with name := bl t } (mdrop (bl s) (fl fs))
      have hrd : RiseF (delF (bl s) (fl fs)) := by rw [← fl_del]; exact hdI.rise
      rw [(at_place (bl t) hrd).2.2 _ rfl, (at_place (bl s) hI.rise).2.1, g3]
      rfl
    · show S.turn.2.used - lenOf (bl s) fs + ((p.1.data.length : Int) - lenOf t.data.toList (delP (bl s) fs)) ≤ S.turn.2.room
      rw [hl, t2, t3]; omega
    · have h1 := putP_length (⟨t.data.toList, p.1.data, p.1.safe⟩, p.2) (delP (bl s) fs)
      have h2 := delP_length (bl s) fs
      omega

theorem rem_out {B d mb n : Nat} {S : DS} {fs : List FP} (w : World) (h : DiskAt w B d mb n S fs) (hI : Inv S (fl fs)) (s : ByteArray) (hs : s.size ≤ maxLen) :
    Calls Try.prog 24 #[.pointer (some ⟨d, 0, none⟩), .string s] w fun e w' => ∃ c, e = .returned (.int .i64 c) ∧ Out w w' B d mb n fs (turned (MS.of S (fl fs)) fun M => M.rem s) c := by
  obtain ⟨t1, t2, t3, t4, t5, t6, t7, t8⟩ := S.turn_eq
  have hI1 := hI.turn
  have h7 := hI.room1
  have h8 := hI.fits
  refine (remove_any w h s hs hI.left0 hI.left1 (by omega) (hI.lenOf_le _)).mono ?_
  rintro e w' ⟨rfl, hD, hk⟩
  refine ⟨_, rfl, ?_⟩
  rw [show s.data.toList = bl s from rfl] at hD ⊢
  by_cases c1 : S.turn.1 = false
  · have e1 : rmR S fs (bl s) = (8, S.turn.2, fs) := by unfold rmR; rw [if_pos c1]
    rw [e1] at hD
    rw [e1, turned_no hI c1]
    exact ⟨S.turn.2, fs, n, rfl, rfl, hI1, by omega, by omega, hD, hk, fun _ hq => .inl hq⟩
  rw [turned_yes hI c1]
  unfold MS.rem
  rcases get_model hI (bl s) with ⟨g1, g2, _⟩ | ⟨p, g1, g2, g3, g4, g5⟩
  · have e1 : rmR S fs (bl s) = (5, S.turn.2, fs) := by unfold rmR; rw [if_neg c1, g1]
    rw [e1] at hD
    rw [e1]
    show Out w w' B d mb n fs (if isAt (bl s) (fl fs) = false then _ else _) 5
    rw [if_pos g2]
    exact ⟨S.turn.2, fs, n, rfl, rfl, hI1, by omega, by omega, hD, hk, fun _ hq => .inl hq⟩
  · have e1 : rmR S fs (bl s) = (0, { S.turn.2 with used := S.turn.2.used - lenOf (bl s) fs }, delP (bl s) fs) := by unfold rmR; rw [if_neg c1, g1]
    rw [e1] at hD
    rw [e1]
    show Out w w' B d mb n fs (if isAt (bl s) (fl fs) = false then _ else _) 0
    rw [if_neg (by rw [g2]; simp)]
    refine ⟨_, _, n, rfl, ?_, hI1.del (S' := { S.turn.2 with used := S.turn.2.used - lenOf (bl s) fs }) (bl s) rfl rfl rfl, by have := delP_length (bl s) fs; omega, by omega, hD, hk, fun q hq => .inl (foot_del q hq)⟩
    rw [of_files S.turn.2 { S.turn.2 with used := S.turn.2.used - lenOf (bl s) fs } (fl fs) _ rfl rfl rfl rfl, fl_del]
    show MS.mk _ _ _ _ = MS.mk _ _ _ _
    congr 1
    exact (at_place (bl s) hI.rise).2.1

theorem tru_out {B d mb n : Nat} {S : DS} {fs : List FP} (w : World) (h : DiskAt w B d mb n S fs) (hI : Inv S (fl fs)) (s : ByteArray) (hs : s.size ≤ maxLen) (z : Int) (hn : n < 1000000) :
    Calls Try.prog 27 #[.pointer (some ⟨d, 0, none⟩), .string s, .int .i64 z] w fun e w' => ∃ c, e = .returned (.int .i64 c) ∧ Out w w' B d mb n fs (turned (MS.of S (fl fs)) fun M => M.tru s z) c := by
  obtain ⟨t1, t2, t3, t4, t5, t6, t7, t8⟩ := S.turn_eq
  have hI1 := hI.turn
  have h7 := hI.room1
  have h8 := hI.fits
  refine (truncate_any w h s hs z hI.left0 hI.left1 hn (by omega) (hI.lenOf_le _) (fun p hp => hI.safe _ (mem_fl hp))).mono ?_
  rintro e w' ⟨rfl, hD⟩
  refine ⟨_, rfl, ?_⟩
  rw [show s.data.toList = bl s from rfl] at hD ⊢
  by_cases c1 : S.turn.1 = false
  · have e1 : trA S fs (bl s) z = (8, S.turn.2, none) := by unfold trA; rw [if_pos c1]
    rw [e1] at hD
    rw [e1, turned_no hI c1]
    exact ⟨S.turn.2, fs, n, rfl, rfl, hI1, by omega, by omega, hD.1, hD.2, fun _ hq => .inl hq⟩
  rw [turned_yes hI c1]
  unfold MS.tru
  rcases get_model hI (bl s) with ⟨g1, g2, _⟩ | ⟨p, g1, g2, g3, g4, g5⟩
  · have e1 : trA S fs (bl s) z = (5, S.turn.2, none) := by unfold trA; rw [if_neg c1, g1]
    rw [e1] at hD
    rw [e1]
    show Out w w' B d mb n fs (if isAt (bl s) (fl fs) = false then _ else _) 5
    rw [if_pos g2]
    exact ⟨S.turn.2, fs, n, rfl, rfl, hI1, by omega, by omega, hD.1, hD.2, fun _ hq => .inl hq⟩
  · show Out w w' B d mb n fs (if isAt (bl s) (fl fs) = false then _ else if z < 0 ∨ ((mfile (bl s) (fl fs)).data.length : Int) < z then _ else _) _
    rw [if_neg (by rw [g2]; simp), g3]
    by_cases c3 : z < 0 ∨ (p.1.data.length : Int) < z
    · have e1 : trA S fs (bl s) z = (1, S.turn.2, none) := by unfold trA; rw [if_neg c1, g1]; exact if_pos c3
      rw [e1] at hD
      rw [e1, if_pos c3]
      exact ⟨S.turn.2, fs, n, rfl, rfl, hI1, by omega, by omega, hD.1, hD.2, fun _ hq => .inl hq⟩
    · have e1 : trA S fs (bl s) z = (0, { S.turn.2 with used := S.turn.2.used + (z - (lenOf (bl s) fs : Int)) }, some ⟨bl s, p.1.data.take z.toNat, min p.1.safe z.toNat⟩) := by unfold trA; rw [if_neg c1, g1]; exact if_neg c3
      rw [e1] at hD
      rw [e1, if_neg c3]
      obtain ⟨⟨sv, hD, hft⟩, hk⟩ := hD
      have hl : lenOf (bl s) fs = p.1.data.length := by unfold lenOf; rw [g1]
      have hlen : (p.1.data.take z.toNat).length = z.toNat := by rw [List.length_take]; omega
      refine ⟨_, _, n + 1, rfl, ?_, hI1.put (S' := { S.turn.2 with used := S.turn.2.used + (z - (lenOf (bl s) fs : Int)) }) (⟨bl s, p.1.data.take z.toNat, min p.1.safe z.toNat⟩, sv) (by show min p.1.safe z.toNat ≤ (p.1.data.take z.toNat).length; rw [hlen]; omega) (hI.get_short g1) rfl rfl ?_ ?_, putP_length _ _, Nat.le_refl _, hD, hk, foot_put (fun q hq => .inl (hft q hq)) (fun _ h => h)⟩
      · rw [of_files S.turn.2 { S.turn.2 with used := S.turn.2.used + (z - (lenOf (bl s) fs : Int)) } (fl fs) _ rfl rfl rfl rfl, fl_put]
        show MS.mk _ _ _ _ = MS.mk _ _ _ _
        congr 1
        show putF ⟨bl s, p.1.data.take z.toNat, min p.1.safe z.toNat⟩ (fl fs) = hd (bl s) (fl fs) ++ FileS.mk (mfile (bl s) (fl fs)).name ((mfile (bl s) (fl fs)).data.take z.toNat) (min (mfile (bl s) (fl fs)).safe z.toNat) :: tl2 (bl s) (fl fs)
        rw [(at_place (bl s) hI.rise).2.2 _ rfl, g3, g4]
      · show S.turn.2.used + (z - (lenOf (bl s) fs : Int)) = S.turn.2.used + (((p.1.data.take z.toNat).length : Int) - lenOf (bl s) fs)
        rw [hlen]; omega
      · show S.turn.2.used + (z - (lenOf (bl s) fs : Int)) ≤ S.turn.2.room
        rw [hl, t2, t3]; omega

theorem fall_out {B d mb n : Nat} {S : DS} {fs : List FP} (w : World) (h : DiskAt w B d mb n S fs) (hI : Inv S (fl fs)) (t : Int) (ht : t ≤ 9223372036854775807) :
    Calls Try.prog 19 #[.pointer (some ⟨d, 0, none⟩), .int .i64 t] w fun e w' => e = .returned (.tuple #[]) ∧ Out w w' B d mb n fs (0, { MS.of S (fl fs) with falls := max t 0 }) 0 := by
  refine (fall_any w h t).mono ?_
  rintro e w' ⟨rfl, hD, hk⟩
  exact ⟨rfl, _, fs, n, rfl, rfl, hI.of_eq (S' := { S with falls := true, left := max t 0 }) rfl (by show 0 ≤ max t 0; omega) (by show max t 0 ≤ _; omega) rfl, by omega, by omega, hD, hk, fun _ hq => .inl hq⟩

end Go.Proofs.Ytkeopkhbcmeplaa
