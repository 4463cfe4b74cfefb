/-
  ValReads: for every text the law's function returns true, and writes nothing that was there.
-/
import Derived.Test.YtmpdmiloolbpbaaValHead
namespace Go.Proofs.Ytmpdmiloolbpbaa

theorem decOf_err {l : L8} {er : Int} (h : decOf l = .inl er) : (4096 < l.length ∧ er = 4) ∨ (l.length ≤ 4096 ∧ (er = 2 ∨ er = 3)) := by
  unfold decOf at h
  by_cases h1 : 4096 < l.length
  · rw [if_pos h1] at h
    injection h with h
    exact .inl ⟨h1, h.symm⟩
  · rw [if_neg h1] at h
    refine .inr ⟨by omega, ?_⟩
    rcases hd : decV 32 l with e | ⟨v, r⟩
    · rw [hd] at h
      injection h with h
      subst h
      exact decV_err 32 l e hd
    · rw [hd] at h
      cases r with
      | nil => cases h
      | cons c r => injection h with h; exact .inl h.symm

theorem decOf_val {l : L8} {v : V} (h : decOf l = .inr v) : l = v.lay ∧ v.right 32 = true ∧ v.n64 ∧ l.length ≤ 4096 := by
  unfold decOf at h
  by_cases h1 : 4096 < l.length
  · rw [if_pos h1] at h; cases h
  · rw [if_neg h1] at h
    rcases hd : decV 32 l with e | ⟨u, r⟩
    · rw [hd] at h; cases h
    · rw [hd] at h
      cases r with
      | cons c r => cases h
      | nil =>
        injection h with h
        subst h
        obtain ⟨a, b, c⟩ := decV_back 32 l u [] hd
        exact ⟨by simpa using a, b, c, by omega⟩

end Go.Proofs.Ytmpdmiloolbpbaa
namespace Go.Proofs.Ytmpdmiloolbpbaa.valReads
open Go.RowKit

set_option maxHeartbeats 2000000 in
theorem walk (s : ByteArray) (_w0 : s.size ≤ maxLen) (w : World) :
    Calls Try.prog 4 #[.string s] w fun e w' => e = .returned (.bool true) ∧ Below w.heap.size w w' := by
  by_cases hs : 5000 < s.size
  · have hs' : (5000 : Int) < (s.size : Int) := by omega
    go_enter Try.func4, Try.ntmps4
    go_wp2_with (go_at_call 12; refine (head_any _).mono ?_; rintro e w1 ⟨rfl, hb1⟩)
    go_ret
    exact ⟨rfl, hb1⟩
  · have hs' : ¬ (5000 : Int) < (s.size : Int) := by omega
    obtain ⟨l, hl⟩ : ∃ l, l = s.data.toList := ⟨_, rfl⟩
    have hsl : s = ⟨l.toArray⟩ := by rw [hl]
    have hsz : l.length = s.size := by rw [hl, Array.length_toList]; rfl
    have hdec := decode_any s l hsl
    clear hl
    have HSL := Lib.hid hsl
    have HSZ := Lib.hid hsz
    clear hsl hsz
    go_enter Try.func4, Try.ntmps4
    go_wp2_with fail
    refine (head_any _).mono ?_
    rintro e w1 ⟨rfl, hb1⟩
    have hz1 := hb1.size
    go_wp2_with fail
    refine (hdec w1).mono ?_
    rintro e w2 ⟨hb2, ⟨er, h1, rfl⟩ | ⟨v, lv, fv, h1, rfl, hat⟩⟩
    · have hb2w := hb1.trans (hb2.mono hz1)
      clear hb1 hb2 hdec
      rcases decOf_err h1 with ⟨h2, rfl⟩ | ⟨h2, rfl | rfl⟩
      · have h3 : (4096 : Int) < (s.size : Int) := by have := HSZ.out; omega
        clear h1 h2
        go_wp2
        go_ret
        exact ⟨rfl, hb2w.alloc hb2w.size _⟩
      · have h3 : decide ((4096 : Int) < (s.size : Int)) = false := decide_eq_false (by have := HSZ.out; omega)
        clear h1 h2
        go_wp2
        go_ret
        exact ⟨rfl, hb2w.alloc hb2w.size _⟩
      · have h3 : decide ((4096 : Int) < (s.size : Int)) = false := decide_eq_false (by have := HSZ.out; omega)
        clear h1 h2
        go_wp2
        go_ret
        exact ⟨rfl, hb2w.alloc hb2w.size _⟩
    · have hb2w := hb1.trans (hb2.mono hz1)
      obtain ⟨h2, h3, h4, h5⟩ := decOf_val h1
      obtain ⟨⟨ax, cx, rfl⟩, ⟨ay, cy, rfl⟩, _, _⟩ := hat.is.len
      have hb3 : Below w2.heap.size w2 (w2.alloc (.cells #[.int .i64 v.kind, .bool v.yes, .int .i64 v.num, .string v.text, .slice ax v.list.length cx, .slice ay v.fields.length cy] 26)) := (Below.refl _ w2).alloc (Nat.le_refl _) _
      have hb3w := hb2w.trans (hb3.mono hb2w.size)
      have his := hat.is.below hb3
      have henc := enc_any v _ _ _ his (fun _ => fit_of_lay 32 v h3 h4 (by rw [← h2]; omega))
      have e1 : encOf v = .tuple #[.string s, .int .i64 0] := by
        unfold encOf
        rw [if_pos h3, if_pos (by rw [← h2]; exact h5), ← h2, ← HSL.out]
      rw [e1] at henc
      have H3 := Lib.hid h3
      clear hb1 hb2 hdec h1 h2 h3 h4 h5 hb2w hat e1
      go_wp2_with fail
      refine henc.mono ?_
      rintro e w3 ⟨rfl, hb4⟩
      have hb4w := hb3w.trans (hb4.mono hb3w.size)
      have hr := right_any v _ _ _ (his.below hb4)
      rw [H3.out] at hr
      have hz : w2.heap.size < w3.heap.size := by have := hb4.size; simp at this; omega
      obtain ⟨hc, hf⟩ : (∀ o, w3.cell? ⟨w2.heap.size, o, none⟩ = (w2.alloc (.cells #[.int .i64 v.kind, .bool v.yes, .int .i64 v.num, .string v.text, .slice ax v.list.length cx, .slice ay v.fields.length cy] 26)).cell? ⟨w2.heap.size, o, none⟩) ∧ True := ⟨fun o => hb4.cell (by simp), trivial⟩
      have c0 := hc 0
      have c1 := hc 1
      have c2 := hc 2
      have c3 := hc 3
      have c4 := hc 4
      have c5 := hc 5
      simp at c0 c1 c2 c3 c4 c5
      clear henc hb3 hb4 hb3w his hc hf
      go_wp2_with fail
      refine hr.mono ?_
      rintro e w4 ⟨rfl, hb5⟩
      have hb5w := hb4w.trans (hb5.mono hb4w.size)
      clear hr hb5 hb4w
      go_wp2
      go_ret
      exact ⟨rfl, hb5w⟩

end Go.Proofs.Ytmpdmiloolbpbaa.valReads
