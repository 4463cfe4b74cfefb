/-
  A disk's turns, and where its blocks lie behind them.
-/
import Derived.Test.YtkeopkhbcmeplaaMPlay
namespace Go.Proofs.Ytkeopkhbcmeplaa
open Go.RowKit

/-- a disk of these files, whose blocks are some of F -/
def DMF (w : World) (B d n : Nat) (M : MS) (F : Nat → Prop) : Prop := ∃ mb m S fs, MS.of S (fl fs) = M ∧ Inv S (fl fs) ∧ fs.length ≤ n ∧ m ≤ n ∧ DiskAt w B d mb m S fs ∧ ∀ q, Foot d mb fs q → F q

theorem DMF.dm {w : World} {B d n : Nat} {M : MS} {F : Nat → Prop} (h : DMF w B d n M F) : DM w B d n M := by
  obtain ⟨mb, m, S, fs, e, hI, h1, h2, hD, _⟩ := h
  exact ⟨mb, m, S, fs, e, hI, h1, h2, hD⟩
theorem DM.foot {w : World} {B d n : Nat} {M : MS} (h : DM w B d n M) : DMF w B d n M (fun q => B ≤ q ∧ q < w.heap.size) := by
  obtain ⟨mb, m, S, fs, e, hI, h1, h2, hD⟩ := h
  exact ⟨mb, m, S, fs, e, hI, h1, h2, hD, fun q hq => ⟨hD.foot_ge q hq, hD.foot_lt q hq⟩⟩
theorem DMF.imp {w : World} {B d n n' : Nat} {M : MS} {F G : Nat → Prop} (h : DMF w B d n M F) (hn : n ≤ n') (hg : ∀ q, q < w.heap.size → F q → G q) : DMF w B d n' M G := by
  obtain ⟨mb, m, S, fs, e, hI, h1, h2, hD, hf⟩ := h
  exact ⟨mb, m, S, fs, e, hI, by omega, by omega, hD, fun q hq => hg q (hD.foot_lt q hq) (hf q hq)⟩
theorem DMF.keep {w w' : World} {B d n : Nat} {M : MS} {F : Nat → Prop} (h : DMF w B d n M F) (hk : ∀ q, q < w.heap.size → F q → w'.heap[q]? = w.heap[q]?) : DMF w' B d n M F := by
  obtain ⟨mb, m, S, fs, e, hI, h1, h2, hD, hf⟩ := h
  exact ⟨mb, m, S, fs, e, hI, h1, h2, hD.keep fun q hq => hk q (hD.foot_lt q hq) (hf q hq), hf⟩
theorem DMF.below {w w' : World} {B d n : Nat} {M : MS} {F : Nat → Prop} (h : DMF w B d n M F) (hb : Below w.heap.size w w') : DMF w' B d n M F := h.keep fun q hq _ => hb.block q hq

/-- a turn: blocks of F alone (and of a disk's kind), and new ones -/
def DTurnF (w w' : World) (B d n : Nat) (M : MS) (F : Nat → Prop) : Prop := DMF w' B d (n + 1) M (fun q => F q ∨ w.heap.size ≤ q) ∧ DTurn w w' B d n M ∧ ∀ q, q < w.heap.size → ¬ F q → w'.heap[q]? = w.heap[q]?
def ToldF (w : World) (B d n : Nat) (F : Nat → Prop) (r : Int × MS) (e : Ending) (w' : World) : Prop := e = .returned (.int .i64 r.1) ∧ DTurnF w w' B d n r.2 F
def PlayF (w w' : World) (B d n : Nat) (r : Int × MS) (F : Nat → Prop) (e : Ending) : Prop := e = .returned (.int .i64 r.1) ∧ ∃ w1, Below w.heap.size w w1 ∧ DTurnF w1 w' B d n r.2 F

theorem DMF.turn {w : World} {B d n : Nat} {M : MS} {F : Nat → Prop} (h : DMF w B d n M F) (hn : n < 1000000) (f : World → Prop)
    (hf : ∀ mb m S fs, MS.of S (fl fs) = M → Inv S (fl fs) → fs.length ≤ n → m < 1000000 → DiskAt w B d mb m S fs → (∀ w' a c, Out w w' B d mb m fs a c → DTurnF w w' B d n a.2 F ∧ c = a.1) → f w) : f w := by
  obtain ⟨mb, m, S, fs, e, hI, h1, h2, hD, hF⟩ := h
  refine hf mb m S fs e hI h1 (by omega) hD fun w' a c ⟨S', fs', m', e1, e2, e3, e4, e5, e6, e7, e8⟩ => ⟨⟨⟨mb, m', S', fs', e2, e3, by omega, by omega, e6, fun q hq => (e8 q hq).imp (hF q) id⟩,
    ⟨⟨mb, m', S', fs', e2, e3, by omega, by omega, e6⟩, mb, fs, fun q hq => ⟨hD.foot_ge q hq, hD.foot_lt q hq, hD.foot_type q hq⟩, e7⟩, fun q hq hn => e7.2.2.2.2 q hq fun hf => hn (hF q hf)⟩, e1⟩

theorem told_ofF {w : World} {B d mb m n : Nat} {fs : List FP} {F : Nat → Prop} {r : Int × MS} (h : ∀ w' a c, Out w w' B d mb m fs a c → DTurnF w w' B d n a.2 F ∧ c = a.1) {e : Ending} {w' : World} (he : ∃ c, e = .returned (.int .i64 c) ∧ Out w w' B d mb m fs r c) : ToldF w B d n F r e w' := by
  obtain ⟨c, rfl, ho⟩ := he
  obtain ⟨h1, h2⟩ := h w' _ c ho
  exact ⟨by rw [h2], h1⟩

theorem app_toldF {w : World} {B d n : Nat} {M : MS} {F : Nat → Prop} (h : DMF w B d n M F) (hn : n < 1000000) (s b : ByteArray) (hs : s.size ≤ maxLen) :
    Calls Try.prog 20 #[.pointer (some ⟨d, 0, none⟩), .string s, .string b] w (ToldF w B d n F (turned M fun M => M.app s b)) := by
  refine h.turn hn (fun w => Calls Try.prog _ _ w (ToldF w B d n F (turned M fun M => M.app s b))) fun mb m S fs e hI h1 h2 hD ho => ?_
  rw [← e]
  exact (app_out w hD hI s b hs h2).mono fun e' w' he => told_ofF ho he
theorem sync_toldF {w : World} {B d n : Nat} {M : MS} {F : Nat → Prop} (h : DMF w B d n M F) (hn : n < 1000000) (s : ByteArray) (hs : s.size ≤ maxLen) :
    Calls Try.prog 25 #[.pointer (some ⟨d, 0, none⟩), .string s] w (ToldF w B d n F (turned M fun M => M.sync s)) := by
  refine h.turn hn (fun w => Calls Try.prog _ _ w (ToldF w B d n F (turned M fun M => M.sync s))) fun mb m S fs e hI h1 h2 hD ho => ?_
  rw [← e]
  exact (sync_out w hD hI s hs h2).mono fun e' w' he => told_ofF ho he
theorem ren_toldF {w : World} {B d n : Nat} {M : MS} {F : Nat → Prop} (h : DMF w B d n M F) (hn : n < 1000000) (s t : ByteArray) (hs : s.size ≤ maxLen) (ht : t.size ≤ maxLen) :
    Calls Try.prog 26 #[.pointer (some ⟨d, 0, none⟩), .string s, .string t] w (ToldF w B d n F (turned M fun M => M.ren s t)) := by
  refine h.turn hn (fun w => Calls Try.prog _ _ w (ToldF w B d n F (turned M fun M => M.ren s t))) fun mb m S fs e hI h1 h2 hD ho => ?_
  rw [← e]
  exact (ren_out w hD hI s t hs ht h2).mono fun e' w' he => told_ofF ho he
theorem rem_toldF {w : World} {B d n : Nat} {M : MS} {F : Nat → Prop} (h : DMF w B d n M F) (hn : n < 1000000) (s : ByteArray) (hs : s.size ≤ maxLen) :
    Calls Try.prog 24 #[.pointer (some ⟨d, 0, none⟩), .string s] w (ToldF w B d n F (turned M fun M => M.rem s)) := by
  refine h.turn hn (fun w => Calls Try.prog _ _ w (ToldF w B d n F (turned M fun M => M.rem s))) fun mb m S fs e hI h1 h2 hD ho => ?_
  rw [← e]
  exact (rem_out w hD hI s hs).mono fun e' w' he => told_ofF ho he
theorem tru_toldF {w : World} {B d n : Nat} {M : MS} {F : Nat → Prop} (h : DMF w B d n M F) (hn : n < 1000000) (s : ByteArray) (hs : s.size ≤ maxLen) (z : Int) :
    Calls Try.prog 27 #[.pointer (some ⟨d, 0, none⟩), .string s, .int .i64 z] w (ToldF w B d n F (turned M fun M => M.tru s z)) := by
  refine h.turn hn (fun w => Calls Try.prog _ _ w (ToldF w B d n F (turned M fun M => M.tru s z))) fun mb m S fs e hI h1 h2 hD ho => ?_
  rw [← e]
  exact (tru_out w hD hI s hs z h2).mono fun e' w' he => told_ofF ho he
theorem fall_toldF {w : World} {B d n : Nat} {M : MS} {F : Nat → Prop} (h : DMF w B d n M F) (hn : n < 1000000) (t : Int) (ht : t ≤ 9223372036854775807) :
    Calls Try.prog 19 #[.pointer (some ⟨d, 0, none⟩), .int .i64 t] w fun e w' => e = .returned (.tuple #[]) ∧ DTurnF w w' B d n { M with falls := max t 0 } F := by
  refine h.turn hn (fun w => Calls Try.prog _ _ w fun e w' => e = .returned (.tuple #[]) ∧ DTurnF w w' B d n { M with falls := max t 0 } F) fun mb m S fs e hI h1 h2 hD ho => ?_
  rw [← e]
  refine (fall_out w hD hI t ht).mono ?_
  rintro e' w' ⟨rfl, hO⟩
  exact ⟨rfl, (ho w' _ _ hO).1⟩

set_option maxHeartbeats 4000000 in
set_option maxRecDepth 100000 in
theorem play_f {w : World} {B d n : Nat} {M : MS} {F : Nat → Prop} (h : DMF w B d n M F) (hn : n < 1000000) (a : ActS) (h1 : a.name.size ≤ maxLen) (h2 : a.dest.size ≤ maxLen) (h3 : a.n ≤ 9223372036854775807) :
    Calls Try.prog 13 #[.pointer (some ⟨d, 0, none⟩), .agg #[.int .i64 a.k, .int .i64 a.n, .string a.name, .string a.dest, .string a.data]] w fun e w' => PlayF w w' B d n (M.act a) F e := by
  have hk := act_k a
  have hk0 : 0 ≤ a.K ∧ a.K < 6 := by unfold ActS.K; omega
  have hB := (Below.refl w.heap.size w).alloc (Nat.le_refl _) (.cells #[.int .i64 a.k, .int .i64 a.n, .string a.name, .string a.dest, .string a.data] 32)
  have HD := Lib.hid (h.below hB)
  have HB := Lib.hid hB
  have HS := Lib.hid (And.intro h1 (And.intro h2 h3))
  clear h hB h1 h2 h3
  by_cases h5 : a.K = 5
  · have HA : Hid (M.act a = (0, { M with falls := max a.n 0 })) := Lib.hid (by unfold MS.act; rw [if_pos h5])
    have HC := Lib.hid (fall_toldF HD.out hn a.n HS.out.2.2)
    rw [h5] at hk
    clear hk0 h5
    go_enter Try.func13, Try.ntmps13
    go_wp2_with fail
    refine HC.out.mono ?_
    rintro e w2 ⟨rfl, hT⟩
    have HT := Lib.hid hT
    clear hT
    go_wp2
    go_ret
    rw [HA.out]
    exact ⟨rfl, _, HB.out, HT.out⟩
  have HA := Lib.hid (act_step (M := M) h5)
  by_cases e0 : a.K = 0
  · have HC := Lib.hid (app_toldF HD.out hn a.name a.data HS.out.1)
    have HST : Hid ((fun M : MS => M.step a.K a) = fun M => M.app a.name a.data) := Lib.hid (by funext M; unfold MS.step; rw [if_pos e0])
    rw [e0] at hk
    clear hk0 h5 e0
    go_enter Try.func13, Try.ntmps13
    go_wp2_with fail
    refine HC.out.mono ?_
    rintro e w2 ⟨rfl, hT⟩
    have HT := Lib.hid hT
    clear hT
    go_wp2
    go_ret
    rw [HA.out, HST.out]
    exact ⟨rfl, _, HB.out, HT.out⟩
  by_cases e1 : a.K = 1
  · have HC := Lib.hid (sync_toldF HD.out hn a.name HS.out.1)
    have HST : Hid ((fun M : MS => M.step a.K a) = fun M => M.sync a.name) := Lib.hid (by funext M; unfold MS.step; rw [if_neg e0, if_pos e1])
    rw [e1] at hk
    clear hk0 h5 e0 e1
    go_enter Try.func13, Try.ntmps13
    go_wp2_with fail
    refine HC.out.mono ?_
    rintro e w2 ⟨rfl, hT⟩
    have HT := Lib.hid hT
    clear hT
    go_wp2
    go_ret
    rw [HA.out, HST.out]
    exact ⟨rfl, _, HB.out, HT.out⟩
  by_cases e2 : a.K = 2
  · have HC := Lib.hid (ren_toldF HD.out hn a.name a.dest HS.out.1 HS.out.2.1)
    have HST : Hid ((fun M : MS => M.step a.K a) = fun M => M.ren a.name a.dest) := Lib.hid (by funext M; unfold MS.step; rw [if_neg e0, if_neg e1, if_pos e2])
    rw [e2] at hk
    clear hk0 h5 e0 e1 e2
    go_enter Try.func13, Try.ntmps13
    go_wp2_with fail
    refine HC.out.mono ?_
    rintro e w2 ⟨rfl, hT⟩
    have HT := Lib.hid hT
    clear hT
    go_wp2
    go_ret
    rw [HA.out, HST.out]
    exact ⟨rfl, _, HB.out, HT.out⟩
  by_cases e3 : a.K = 3
  · have HC := Lib.hid (rem_toldF HD.out hn a.name HS.out.1)
    have HST : Hid ((fun M : MS => M.step a.K a) = fun M => M.rem a.name) := Lib.hid (by funext M; unfold MS.step; rw [if_neg e0, if_neg e1, if_neg e2, if_pos e3])
    rw [e3] at hk
    clear hk0 h5 e0 e1 e2 e3
    go_enter Try.func13, Try.ntmps13
    go_wp2_with fail
    refine HC.out.mono ?_
    rintro e w2 ⟨rfl, hT⟩
    have HT := Lib.hid hT
    clear hT
    go_wp2
    go_ret
    rw [HA.out, HST.out]
    exact ⟨rfl, _, HB.out, HT.out⟩
  · have e4 : a.K = 4 := by omega
    have HC := Lib.hid (tru_toldF HD.out hn a.name HS.out.1 a.n)
    have HST : Hid ((fun M : MS => M.step a.K a) = fun M => M.tru a.name a.n) := Lib.hid (by funext M; unfold MS.step; rw [if_neg e0, if_neg e1, if_neg e2, if_neg e3])
    rw [e4] at hk
    clear hk0 h5 e0 e1 e2 e3 e4
    go_enter Try.func13, Try.ntmps13
    go_wp2_with fail
    refine HC.out.mono ?_
    rintro e w2 ⟨rfl, hT⟩
    have HT := Lib.hid hT
    clear hT
    go_wp2
    go_ret
    rw [HA.out, HST.out]
    exact ⟨rfl, _, HB.out, HT.out⟩


theorem PlayF.play {w w' : World} {B d n : Nat} {r : Int × MS} {F : Nat → Prop} {e : Ending} (h : PlayF w w' B d n r F e) : PlayPost w w' B d n r e := by
  obtain ⟨h1, w1, hb, hT⟩ := h
  exact ⟨h1, w1, hb, hT.2.1⟩

end Go.Proofs.Ytkeopkhbcmeplaa
