/-
  OctetCuts: for every list of parts and every int the law's function returns true, and writes nothing that was there.
-/
import Derived.Test.YtecejmefnbejhaaPartsOpen
import Derived.Test.YtecejmefnbejhaaRound
import Derived.Test.YtecejmefnbejhaaMosts
namespace Go.Proofs.Ytecejmefnbejhaa.octetCuts
open Go.RowKit

/-- What is left to read is a proper beginning of l; or there was an error. -/
def St (w : World) (b : Nat) (l : List UInt8) : Prop := (∃ c, c < l.length ∧ Rd w b ⟨(l.take c).toArray⟩ false) ∨ Rd w b ⟨#[]⟩ true

def IntPost (w : World) (b : Nat) (l : List UInt8) (e : Ending) (w' : World) : Prop := ∃ v : Int, e = .returned (.int .i64 v) ∧ St w' b l ∧ w.grownBy w' (some b)
def TextPost (w : World) (b : Nat) (l : List UInt8) (e : Ending) (w' : World) : Prop := ∃ v : ByteArray, e = .returned (.string v) ∧ St w' b l ∧ w.grownBy w' (some b)
def FlagPost (w : World) (b : Nat) (l : List UInt8) (e : Ending) (w' : World) : Prop := ∃ v : Bool, e = .returned (.bool v) ∧ St w' b l ∧ w.grownBy w' (some b)

theorem St.lt {w : World} {b : Nat} {l : List UInt8} (h : St w b l) : b < w.heap.size := by
  rcases h with ⟨c, _, h⟩ | h
  · exact h.lt
  · exact h.lt

theorem St.kept {w w' : World} {b : Nat} {l : List UInt8} (h : St w b l) (hk : w'.heap[b]? = w.heap[b]?) : St w' b l := by
  rcases h with ⟨c, hc, h⟩ | h
  · exact .inl ⟨c, hc, hk.trans h⟩
  · exact .inr (hk.trans h)

theorem take_over (t R : List UInt8) (c : Nat) (h : t.length ≤ c) : (t ++ R).take c = t ++ R.take (c - t.length) := by
  rw [List.take_append, List.take_of_length_le h]

theorem num_cut (b n : Nat) (hn : n ≤ 9223372036854775807) (R : List UInt8) (w : World) (h : St w b (octN n ++ R)) :
    Calls Try.prog 17 #[.pointer (some ⟨b, 0, none⟩), .int .i64 9223372036854775807] w (IntPost w b R) := by
  rcases h with ⟨c, hc, h⟩ | h
  · have hread := num_read b false _ 9223372036854775807 (Int.le_refl _) w h
    obtain ⟨M, hM⟩ : ∃ M : Nat, M = (9223372036854775807 : Int).toNat := ⟨_, rfl⟩
    rw [← hM] at hread
    have hMb : n ≤ M := by omega
    clear hM
    rw [List.length_append] at hc
    by_cases hh : c < (octN n).length
    · rw [List.take_append_of_le_length (by omega), numRead_cut n M c (by omega) hh] at hread
      refine hread.mono fun e w' hp => ?_
      obtain ⟨he, hg⟩ := hp.gone
      exact ⟨0, he, .inr hg.1, hg.2⟩
    · rw [take_over _ _ _ (by omega), numRead_laid n M _ (by omega), if_pos hMb] at hread
      refine hread.mono fun e w' hp => ?_
      obtain ⟨he, hg⟩ := hp.got
      exact ⟨n, he, .inl ⟨c - (octN n).length, by omega, hg.1⟩, hg.2⟩
  · exact (num_fail b _ w h).mono fun e w' ⟨he, hg⟩ => ⟨0, he, .inr hg.1, hg.2⟩

theorem text_cut (b : Nat) (s : ByteArray) (hs : s.size ≤ 300) (R : List UInt8) (hR : R.length ≤ 1000000) (w : World) (h : St w b (octT s ++ R)) :
    Calls Try.prog 19 #[.pointer (some ⟨b, 0, none⟩), .int .i64 1000] w (TextPost w b R) := by
  have hlen : (octT s).length ≤ 400 := by
    have e : s.data.toList.length = s.size := by simp
    have := octN_lt s.size (by omega)
    unfold octT; rw [List.length_append, e]; omega
  rcases h with ⟨c, hc, h⟩ | h
  · have hread := text_read b false _ (by simp; omega) 1000 (by omega) w h
    rw [List.length_append] at hc
    by_cases hh : c < (octT s).length
    · rw [List.take_append_of_le_length (by omega), textRead_cut s _ c (by omega) hh] at hread
      refine hread.mono fun e w' hp => ?_
      obtain ⟨he, hg⟩ := hp.gone
      exact ⟨⟨#[]⟩, he, .inr hg.1, hg.2⟩
    · rw [take_over _ _ _ (by omega), textRead_laid s _ _ (by omega), if_pos (by show s.size ≤ 1000; omega)] at hread
      refine hread.mono fun e w' hp => ?_
      obtain ⟨he, hg⟩ := hp.got
      exact ⟨_, he, .inl ⟨c - (octT s).length, by omega, hg.1⟩, hg.2⟩
  · exact (text_fail b _ w h).mono fun e w' ⟨he, hg⟩ => ⟨⟨#[]⟩, he, .inr hg.1, hg.2⟩

theorem flag_cut (b : Nat) (x : Bool) (R : List UInt8) (w : World) (h : St w b (octF x ++ R)) :
    Calls Try.prog 20 #[.pointer (some ⟨b, 0, none⟩)] w (FlagPost w b R) := by
  rcases h with ⟨c, hc, h⟩ | h
  · have hread := flag_read b false _ w h
    have h1 : (octF x).length = 1 := rfl
    rw [List.length_append, h1] at hc
    by_cases hh : c = 0
    · subst hh
      rw [List.take_zero, show flagRead [] = none from rfl] at hread
      refine hread.mono fun e w' hp => ?_
      obtain ⟨he, hg⟩ := hp.gone
      exact ⟨false, he, .inr hg.1, hg.2⟩
    · rw [take_over _ _ _ (by omega), flagRead_laid x] at hread
      refine hread.mono fun e w' hp => ?_
      obtain ⟨he, hg⟩ := hp.got
      exact ⟨x, he, .inl ⟨c - (octF x).length, by omega, hg.1⟩, hg.2⟩
  · exact (flag_fail b w h).mono fun e w' ⟨he, hg⟩ => ⟨false, he, .inr hg.1, hg.2⟩

theorem oct_length (p : Part) (hs : p.s.size ≤ 300) (hn : p.n ≤ 9223372036854775807) : 0 < p.oct.length ∧ p.oct.length ≤ 400 := by
  unfold Part.oct
  have h1 := octN_lt p.n.toNat (by omega)
  have h2 := octN_lt p.s.size (by omega)
  have e : p.s.data.toList.length = p.s.size := by simp
  split
  · rw [octN_length] at h1 ⊢; omega
  · split
    · unfold octT; rw [List.length_append, e]; rw [octN_length] at h2 ⊢; omega
    · simp [octF]

theorem layOf_length (ps : List Part) (h : ∀ p ∈ ps, p.s.size ≤ 300 ∧ p.n ≤ 9223372036854775807) : (layOf ps).length ≤ 400 * ps.length ∧ ps.length ≤ (layOf ps).length := by
  induction ps with
  | nil => simp [layOf]
  | cons p ps ih =>
    have h1 := ih fun q hq => h q (by simp [hq])
    have h2 := h p (by simp)
    have h3 := oct_length p h2.1 h2.2
    unfold layOf at h1 ⊢
    rw [List.flatMap_cons, List.length_append, List.length_cons]
    omega

theorem layOf_drop (ps : List Part) (k : Nat) (h : k < ps.length) : layOf (ps.drop k) = ps[k].oct ++ layOf (ps.drop (k + 1)) := by
  unfold layOf
  rw [List.drop_eq_getElem_cons h, List.flatMap_cons]

set_option maxHeartbeats 2000000 in
theorem walk_some (b0 off : Nat) (ps : List Part) (cap : Nat) (cut : Int) (w : World) (hbw : b0 < w.heap.size) (hps : PartsAt w b0 off ps) (hne : 0 < ps.length) (hfew : ∀ p ∈ ps, p.s.size ≤ 300) (h20 : ps.length ≤ 20) :
    Calls Try.prog 6 #[.slice (some ⟨b0, off, none⟩) ps.length cap, .int .i64 cut] w fun e w' => e = .returned (.bool true) ∧ Below w.heap.size w w' := by
  have hpp : ∀ p ∈ ps, p.s.size ≤ 300 ∧ p.n ≤ 9223372036854775807 := fun p hp => by
    obtain ⟨i, hi, rfl⟩ := List.getElem_of_mem hp
    exact ⟨hfew _ (List.getElem_mem _), (hps i hi).2⟩
  have hlen := layOf_length ps hpp
  have hll : (layOf ps).length ≤ 8000 := by omega
  have hl0 : 0 < (layOf ps).length := by omega
  have hfb : fewB ps = true := by unfold fewB; exact decide_eq_true ⟨hfew, h20⟩
  have hm := and_mask16 cut
  obtain ⟨c0, hc0⟩ : ∃ c0 : Nat, cut % 65536 = c0 := ⟨(cut % 65536).toNat, by omega⟩
  rw [hc0] at hm
  have hc1 : c0 < 65536 := by omega
  obtain ⟨c, hcm⟩ : ∃ c : Nat, (c0 : Int) % ((layOf ps).length : Int) = c := ⟨c0 % (layOf ps).length, by simp⟩
  have hcl : c < (layOf ps).length := by
    have := Int.emod_lt_of_pos (c0 : Int) (b := ((layOf ps).length : Int)) (by omega)
    omega
  have hlz : (((layOf ps).length : Int) == 0) = false := by rw [beq_eq_false_iff_ne]; omega
  have hpz : ((ps.length : Int) == 0) = false := by rw [beq_eq_false_iff_ne]; omega
  clear hc0
  go_enter Try.func6, Try.ntmps6
  go_wp2_with fail
  refine (head_any _).mono ?_
  rintro e w1 ⟨rfl, hb1⟩
  have hz1 := hb1.size
  have carry : ∀ W, Below w.heap.size w W → PartsAt W b0 off ps := fun W hB i hi => by
    obtain ⟨⟨g0, g1, g2, g3⟩, gn⟩ := hps i hi
    exact ⟨⟨(hB.cell (by exact hbw)).trans g0, (hB.cell (by exact hbw)).trans g1, (hB.cell (by exact hbw)).trans g2, (hB.cell (by exact hbw)).trans g3⟩, gn⟩
  have CARRY := Lib.hid carry
  clear carry
  go_wp2_with fail
  have hfw := few_any b0 off ps cap w1 (by omega) (CARRY.out w1 hb1) (by omega)
  have hfb : fewB ps = true := by unfold fewB; exact decide_eq_true ⟨hfew, h20⟩
  rw [hfb] at hfw
  refine hfw.mono ?_
  rintro e w2 ⟨rfl, hb2'⟩
  have hb2 := hb1.trans (hb2'.mono hz1)
  have hz2 := hb2.size
  clear hb1 hb2' hfw hz1
  go_wp2_with fail
  refine (lay_any b0 off ps cap w2 (by omega) (CARRY.out w2 hb2) (by omega) (by omega)).mono ?_
  rintro e w3 ⟨rfl, hb3'⟩
  have hb3 := hb2.trans (hb3'.mono hz2)
  have hz3 := hb3.size
  clear hb2 hb3' hz2
  go_wp2_with fail
  have hext : (⟨(layOf ps).toArray⟩ : ByteArray).extract 0 c = ⟨((layOf ps).take c).toArray⟩ := by rw [extract_list]; simp
  have hread := read_any ((⟨(layOf ps).toArray⟩ : ByteArray).extract 0 c) w3
  refine hread.mono ?_
  rintro e w4 ⟨rfl, hr4, hb4'⟩
  rw [hext] at hr4
  have hb4 := hb3.trans (hb4'.mono hz3)
  obtain ⟨b, hbe⟩ : ∃ b, b = w3.heap.size := ⟨_, rfl⟩
  rw [← hbe] at hr4 ⊢
  have hBb : w.heap.size ≤ b := by omega
  have hst4 : St w4 b (layOf ps) := .inl ⟨c, hcl, hr4⟩
  clear hb3 hb4' hz3 hr4 hext hread hbe
  go_wp2_with fail
  go_loopw [33] (fun ct wr => ∃ k : Nat, k ≤ ps.length ∧ ct = .int .i64 k ∧ St wr b (layOf (ps.drop k)) ∧ Below w.heap.size w wr) (fun ct _ => ps.length - (intOf ct).toNat)
  case atStart => exact ⟨0, Nat.zero_le _, rfl, hst4, hb4⟩
  case round =>
    obtain ⟨k, hk, rfl, hst, hb⟩ := hrel
    clear hst4 hb4
    have hz := hb.size
    have hbl := hst.lt
    by_cases hlt : k < ps.length
    · obtain ⟨⟨hc0, hc1, hc2, hc3⟩, hn⟩ := CARRY.out wr hb k hlt
      have hdk := layOf_drop ps k hlt
      have hs300 := hfew ps[k] (List.getElem_mem _)
      have hrest : (layOf (ps.drop (k + 1))).length ≤ 1000000 := by
        have h1 := (layOf_length (ps.drop (k + 1)) fun p hp => hpp p (List.mem_of_mem_drop hp)).1
        have h2 : (ps.drop (k + 1)).length ≤ 20 := by simp; omega
        omega
      generalize ps[k] = p at hc0 hc1 hc2 hc3 hn hdk hs300
      obtain ⟨R, hR⟩ : ∃ R, R = layOf (ps.drop (k + 1)) := ⟨_, rfl⟩
      rw [← hR] at hdk hrest
      have HR := Lib.hid hR
      rw [hdk] at hst
      have hm := and_mask2 p.kind
      have hst1 : St (wr.alloc (.cells #[.int .i64 p.kind, .int .i64 p.n, .string p.s, .bool p.yes] 27)) b (p.oct ++ R) := hst.kept (Below.heap_alloc wr _ b hbl)
      have hb1 := hb.alloc hz (.cells #[.int .i64 p.kind, .int .i64 p.n, .string p.s, .bool p.yes] 27)
      have hz1 := hb1.size
      clear hdk hst hR
      by_cases h0 : p.kind % 4 = 0
      · rw [h0] at hm
        have ho : p.oct = octN p.n.toNat := by unfold Part.oct; rw [if_pos h0]
        rw [ho] at hst1
        have hcut := num_cut b p.n.toNat (by omega) R _ hst1
        clear h0 ho hst1
        go_wp2_with (go_at_call 17; refine hcut.mono ?_; rintro e w5 ⟨v, rfl, hst5, hg5⟩)
        go_roundw
        case rel => exact ⟨k + 1, by omega, by go_num, by rw [← HR.out]; exact hst5, (hb1.grown hg5 hz1 (by intro j hj; simp at hj; omega))⟩
        case measure => simp [intOf]; omega
      · by_cases h1 : p.kind % 4 = 1
        · rw [h1] at hm
          have ho : p.oct = octT p.s := by unfold Part.oct; rw [if_neg h0, if_pos h1]
          rw [ho] at hst1
          have hcut := text_cut b p.s hs300 R hrest _ hst1
          clear h0 h1 ho hst1
          go_wp2_with (go_at_call 19; refine hcut.mono ?_; rintro e w5 ⟨v, rfl, hst5, hg5⟩)
          go_roundw
          case rel => exact ⟨k + 1, by omega, by go_num, by rw [← HR.out]; exact hst5, (hb1.grown hg5 hz1 (by intro j hj; simp at hj; omega))⟩
          case measure => simp [intOf]; omega
        · have ho : p.oct = octF p.yes := by unfold Part.oct; rw [if_neg h0, if_neg h1]
          rw [ho] at hst1
          have hcut := flag_cut b p.yes R _ hst1
          obtain ⟨q, hq⟩ : ∃ q, q = p.kind % 4 := ⟨_, rfl⟩
          have e0 : ((q : Int) == 0) = false := by rw [beq_eq_false_iff_ne]; omega
          have e1 : ((q : Int) == 1) = false := by rw [beq_eq_false_iff_ne]; omega
          rw [← hq] at hm
          clear h0 h1 ho hst1 hq
          go_wp2_with (go_at_call 20; refine hcut.mono ?_; rintro e w5 ⟨v, rfl, hst5, hg5⟩)
          go_roundw
          case rel => exact ⟨k + 1, by omega, by go_num, by rw [← HR.out]; exact hst5, (hb1.grown hg5 hz1 (by intro j hj; simp at hj; omega))⟩
          case measure => simp [intOf]; omega
    · have hge : ¬ (k : Int) < (ps.length : Int) := by omega
      have hbad : Rd wr b ⟨#[]⟩ true := by
        rcases hst with ⟨c, hc, _⟩ | h
        · rw [List.drop_of_length_le (by omega)] at hc
          exact absurd hc (by simp [layOf])
        · exact h
      clear hlt hst
      go_wp2_with (first
        | (go_at_call 18; (with_reducible refine (err_bad _ _ _ hbad).mono ?_); rintro e w' ⟨rfl, rfl⟩)
        | (go_at_call 17; (with_reducible refine (num_nil _ _).mono ?_); rintro e w' ⟨rfl, rfl⟩)
        | (go_at_call 19; (with_reducible refine (text_nil _ _).mono ?_); rintro e w6 ⟨rfl, hb6⟩)
        | (go_at_call 20; (with_reducible refine (flag_nil _).mono ?_); rintro e w' ⟨rfl, rfl⟩)
        | (go_at_call 22; (with_reducible refine (left_nil _).mono ?_); rintro e w' ⟨rfl, rfl⟩)
        | (go_at_call 18; (with_reducible refine (err_nil _).mono ?_); rintro e w' ⟨rfl, rfl⟩)
        | (go_at_call 21; (with_reducible refine (end_nil _).mono ?_); rintro e w' ⟨rfl, rfl⟩))
      go_ret
      exact ⟨rfl, hb.trans (hb6.mono hz)⟩

theorem walk_empty (a : Option Addr) (cap : Nat) (cut : Int) (w : World) :
    Calls Try.prog 6 #[.slice a 0 cap, .int .i64 cut] w fun e w' => e = .returned (.bool true) ∧ Below w.heap.size w w' := by
  go_enter Try.func6, Try.ntmps6
  go_wp2_with (first
    | (go_at_call 10; refine (head_any _).mono ?_; rintro e w1 ⟨rfl, hb1⟩)
    | (go_at_call 11; refine (few_empty _ _ _).mono ?_; rintro e w2 ⟨rfl, hb2⟩))
  go_ret
  exact ⟨rfl, hb1.trans (hb2.mono hb1.size)⟩

theorem walk_many (b0 off : Nat) (ps : List Part) (cap : Nat) (cut : Int) (w : World) (hbw : b0 < w.heap.size) (hps : PartsAt w b0 off ps) (hpl : ps.length ≤ 9223372036854775807) (hfb : fewB ps = false) :
    Calls Try.prog 6 #[.slice (some ⟨b0, off, none⟩) ps.length cap, .int .i64 cut] w fun e w' => e = .returned (.bool true) ∧ Below w.heap.size w w' := by
  go_enter Try.func6, Try.ntmps6
  go_wp2_with fail
  refine (head_any _).mono ?_
  rintro e w1 ⟨rfl, hb1⟩
  have hz1 := hb1.size
  have hp1 : PartsAt w1 b0 off ps := fun i hi => by
    obtain ⟨⟨g0, g1, g2, g3⟩, gn⟩ := hps i hi
    exact ⟨⟨(hb1.cell (by exact hbw)).trans g0, (hb1.cell (by exact hbw)).trans g1, (hb1.cell (by exact hbw)).trans g2, (hb1.cell (by exact hbw)).trans g3⟩, gn⟩
  have hfw := few_any b0 off ps cap w1 (by omega) hp1 hpl
  rw [hfb] at hfw
  clear hp1 hfb hps
  go_wp2_with (go_at_call 11; refine hfw.mono ?_; rintro e w2 ⟨rfl, hb2⟩)
  go_ret
  exact ⟨rfl, hb1.trans (hb2.mono hz1)⟩

theorem walk (a : Option Addr) (len cap : Nat) (w : World) (wa : ∃ ps, PartRow w a len ps) (cut : Int) (_wc : (Lit.int .i64 cut).wf = true) :
    Calls Try.prog 6 #[.slice a len cap, .int .i64 cut] w fun e w' => e = .returned (.bool true) ∧ Below w.heap.size w w' := by
  obtain ⟨ps, rfl, hlen, h⟩ := wa
  by_cases h0 : ps.length = 0
  · rw [h0]
    exact walk_empty a cap cut w
  · rcases h with h | ⟨b, off, rfl, hb, hp⟩
    · exact absurd h h0
    · by_cases hf : fewB ps = true
      · have hf' : (∀ p ∈ ps, p.s.size ≤ 300) ∧ ps.length ≤ 20 := of_decide_eq_true hf
        exact walk_some b off ps cap cut w hb hp (by omega) hf'.1 hf'.2
      · exact walk_many b off ps cap cut w hb hp hlen (by simpa using hf)

end Go.Proofs.Ytecejmefnbejhaa.octetCuts
