/-
  Play: an act of a disk, by the model.
-/
import Derived.Test.YtkeopkhbcmeplaaMDo3
namespace Go.Proofs.Ytkeopkhbcmeplaa
open Go.RowKit

def PlayPost (w w' : World) (B d n : Nat) (r : Int × MS) (e : Ending) : Prop := e = .returned (.int .i64 r.1) ∧ ∃ w1, Below w.heap.size w w1 ∧ DTurn w1 w' B d n r.2

theorem act_step {M : MS} {a : ActS} (h5 : ¬ a.K = 5) : M.act a = turned M fun M => M.step a.K a := by
  unfold MS.act turned
  rw [if_neg h5]

set_option maxHeartbeats 4000000 in
set_option maxRecDepth 100000 in
theorem play_any {w : World} {B d n : Nat} {M : MS} (h : DM w B d n M) (hn : n < 1000000) (a : ActS) (h1 : a.name.size ≤ maxLen) (h2 : a.dest.size ≤ maxLen) (h3 : a.n ≤ 9223372036854775807) :
    Calls Try.prog 13 #[.pointer (some ⟨d, 0, none⟩), .agg #[.int .i64 a.k, .int .i64 a.n, .string a.name, .string a.dest, .string a.data]] w fun e w' => PlayPost w w' B d n (M.act a) e := by
  have hk := act_k a
  have hk0 : 0 ≤ a.K ∧ a.K < 6 := by unfold ActS.K; omega
  have hB := (Below.refl w.heap.size w).alloc (Nat.le_refl _) (.cells #[.int .i64 a.k, .int .i64 a.n, .string a.name, .string a.dest, .string a.data] 32)
  have HD := Lib.hid (h.below hB)
  have HB := Lib.hid hB
  have HS := Lib.hid (And.intro h1 (And.intro h2 h3))
  clear h hB h1 h2 h3
  by_cases h5 : a.K = 5
  · have HA : Hid (M.act a = (0, { M with falls := max a.n 0 })) := Lib.hid (by unfold MS.act; rw [if_pos h5])
    have HC := Lib.hid (fall_told HD.out hn a.n HS.out.2.2)
    rw [h5] at hk
    clear hk0 h5
    go_enter Try.func13, Try.ntmps13
    go_wp2_with fail
    refine HC.out.mono ?_
    rintro e w2 ⟨rfl, hT⟩
    have HT := Lib.hid hT
    clear hT
    go_wp2
    go_ret
    rw [HA.out]
    exact ⟨rfl, _, HB.out, HT.out⟩
  have HA := Lib.hid (act_step (M := M) h5)
  by_cases e0 : a.K = 0
  · have HC := Lib.hid (app_told HD.out hn a.name a.data HS.out.1)
    have HST : Hid ((fun M : MS => M.step a.K a) = fun M => M.app a.name a.data) := Lib.hid (by funext M; unfold MS.step; rw [if_pos e0])
    rw [e0] at hk
    clear hk0 h5 e0
    go_enter Try.func13, Try.ntmps13
    go_wp2_with fail
    refine HC.out.mono ?_
    rintro e w2 ⟨rfl, hT⟩
    have HT := Lib.hid hT
    clear hT
    go_wp2
    go_ret
    rw [HA.out, HST.out]
    exact ⟨rfl, _, HB.out, HT.out⟩
  by_cases e1 : a.K = 1
  · have HC := Lib.hid (sync_told HD.out hn a.name HS.out.1)
    have HST : Hid ((fun M : MS => M.step a.K a) = fun M => M.sync a.name) := Lib.hid (by funext M; unfold MS.step; rw [if_neg e0, if_pos e1])
    rw [e1] at hk
    clear hk0 h5 e0 e1
    go_enter Try.func13, Try.ntmps13
    go_wp2_with fail
    refine HC.out.mono ?_
    rintro e w2 ⟨rfl, hT⟩
    have HT := Lib.hid hT
    clear hT
    go_wp2
    go_ret
    rw [HA.out, HST.out]
    exact ⟨rfl, _, HB.out, HT.out⟩
  by_cases e2 : a.K = 2
  · have HC := Lib.hid (ren_told HD.out hn a.name a.dest HS.out.1 HS.out.2.1)
    have HST : Hid ((fun M : MS => M.step a.K a) = fun M => M.ren a.name a.dest) := Lib.hid (by funext M; unfold MS.step; rw [if_neg e0, if_neg e1, if_pos e2])
    rw [e2] at hk
    clear hk0 h5 e0 e1 e2
    go_enter Try.func13, Try.ntmps13
    go_wp2_with fail
    refine HC.out.mono ?_
    rintro e w2 ⟨rfl, hT⟩
    have HT := Lib.hid hT
    clear hT
    go_wp2
    go_ret
    rw [HA.out, HST.out]
    exact ⟨rfl, _, HB.out, HT.out⟩
  by_cases e3 : a.K = 3
  · have HC := Lib.hid (rem_told HD.out hn a.name HS.out.1)
    have HST : Hid ((fun M : MS => M.step a.K a) = fun M => M.rem a.name) := Lib.hid (by funext M; unfold MS.step; rw [if_neg e0, if_neg e1, if_neg e2, if_pos e3])
    rw [e3] at hk
    clear hk0 h5 e0 e1 e2 e3
    go_enter Try.func13, Try.ntmps13
    go_wp2_with fail
    refine HC.out.mono ?_
    rintro e w2 ⟨rfl, hT⟩
    have HT := Lib.hid hT
    clear hT
    go_wp2
    go_ret
    rw [HA.out, HST.out]
    exact ⟨rfl, _, HB.out, HT.out⟩
  · have e4 : a.K = 4 := by omega
    have HC := Lib.hid (tru_told HD.out hn a.name HS.out.1 a.n)
    have HST : Hid ((fun M : MS => M.step a.K a) = fun M => M.tru a.name a.n) := Lib.hid (by funext M; unfold MS.step; rw [if_neg e0, if_neg e1, if_neg e2, if_neg e3])
    rw [e4] at hk
    clear hk0 h5 e0 e1 e2 e3 e4
    go_enter Try.func13, Try.ntmps13
    go_wp2_with fail
    refine HC.out.mono ?_
    rintro e w2 ⟨rfl, hT⟩
    have HT := Lib.hid hT
    clear hT
    go_wp2
    go_ret
    rw [HA.out, HST.out]
    exact ⟨rfl, _, HB.out, HT.out⟩

end Go.Proofs.Ytkeopkhbcmeplaa
