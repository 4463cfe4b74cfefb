/-
  OctetReads: for every text and every list of ints the law's function returns true, and writes nothing that was there.
-/
import Derived.Test.YtecejmefnbejhaaParts
import Derived.Test.YtecejmefnbejhaaIsRow
import Derived.Test.YtecejmefnbejhaaMosts
namespace Go.Proofs.Ytecejmefnbejhaa.octetReads
open Go.RowKit

theorem ext_mid (s : ByteArray) (a t r : List UInt8) (h : s.data.toList = a ++ (t ++ r)) : s.extract a.length (a.length + t.length) = ⟨t.toArray⟩ := by
  rw [bytes_of s, h, extract_list]
  congr 2
  rw [List.drop_left, show a.length + t.length - a.length = t.length by omega, List.take_left]

theorem add_block (x : Addr) (k : Nat) : (x.add k).block = x.block := by unfold Addr.add; split <;> rfl

theorem Rd.set {w : World} {b c j : Nat} {s : ByteArray} {bad : Bool} (h : Rd w b s bad) (hne : b ≠ c) (v : Value) : Rd (w.setCell ⟨c, j, none⟩ v) b s bad := (Below.heap_setCell w _ v b hne).trans h

set_option maxHeartbeats 2000000 in
theorem walk_some (s : ByteArray) (hs : s.size ≤ 100) (x : Addr) (len cap : Nat) (zs : List Int) (hlen : len ≤ 20) (hz : len ≤ zs.length) (w : World) (hx : x.block < w.heap.size)
    (hc : ∀ i, i < zs.length → w.cell? (x.add i) = some (.int .i64 (zs.getD i 0))) :
    Calls Try.prog 5 #[.string s, .slice (some x) len cap] w fun e w' => e = .returned (.bool true) ∧ Below w.heap.size w w' := by
  have hs' : ¬ (100 : Int) < (s.size : Int) := by omega
  have hl' : ¬ (20 : Int) < (len : Int) := by omega
  have hsl : s.data.toList.length = s.size := by simp
  go_enter Try.func5, Try.ntmps5
  go_wp2_with fail
  refine (head_any _).mono ?_
  rintro e w1 ⟨rfl, hb1⟩
  go_wp2_with fail
  refine (read_any s _).mono ?_
  rintro e w2 ⟨rfl, hr2, hb2'⟩
  have hz1 := hb1.size
  have hb2 := hb1.trans (hb2'.mono hz1)
  obtain ⟨b, hbe⟩ : ∃ b, b = w1.heap.size := ⟨_, rfl⟩
  rw [← hbe] at hr2 ⊢
  have hBb : w.heap.size ≤ b := by omega
  clear hb1 hb2' hbe hz1
  go_wp2_with fail
  go_loopw [6, 25] (fun at0 c wr => ∃ (k : Nat) (done rest : List UInt8), k ≤ len ∧ c = .int .i64 k ∧ at0 = .int .i64 (done.length : Int) ∧ s.data.toList = done ++ rest ∧ Rd wr b ⟨rest.toArray⟩ false ∧ Below w.heap.size w wr) (fun _ c _ => len - (intOf c).toNat)
  case atStart => exact ⟨0, [], s.data.toList, Nat.zero_le _, rfl, rfl, rfl, by rw [← bytes_of s]; exact hr2, hb2⟩
  case round =>
    obtain ⟨k, done, rest, hk, rfl, rfl, hdr, hrd, hb⟩ := hrel
    clear hr2 hb2
    have hz := hb.size
    have hbl := hrd.lt
    by_cases hlt : k < len
    · have hck := (hb.cell (p := x.add k) (by rw [add_block]; exact hx)).trans (hc k (by omega))
      obtain ⟨z, hz0⟩ : ∃ z, z = zs.getD k 0 := ⟨_, rfl⟩
      rw [← hz0] at hck
      have hm := and_mask2 z
      have hdl : done.length + rest.length ≤ 100 := by
        have := congrArg List.length hdr
        rw [List.length_append] at this
        omega
      have HD := Lib.hid hdr
      clear hc hz0 hdr
      by_cases h0 : z % 4 = 0
      · rw [h0] at hm
        clear h0
        have hne : b ≠ wr.heap.size := by omega
        have hp1 : PartBlk (wr.alloc (.cells #[.int .i64 0, .int .i64 0, .string ⟨#[]⟩, .bool false] 27)) wr.heap.size ⟨0, 0, ⟨#[]⟩, false⟩ := heap_alloc_new wr _
        have hr1 : Rd (wr.alloc (.cells #[.int .i64 0, .int .i64 0, .string ⟨#[]⟩, .bool false] 27)) b ⟨rest.toArray⟩ false := (Below.heap_alloc wr _ b hbl).trans hrd
        have hb1 := hb.alloc hz (.cells #[.int .i64 0, .int .i64 0, .string ⟨#[]⟩, .bool false] 27)
        have hz1 := hb1.size
        go_wp2_with fail
        have hnum := num_read b false rest 9223372036854775807 (Int.le_refl _) _ hr1
        obtain ⟨M, hM⟩ : ∃ M : Nat, M = (9223372036854775807 : Int).toNat := ⟨_, rfl⟩
        rw [← hM] at hnum
        have hMb : M ≤ 9223372036854775807 := by omega
        clear hM
        refine hnum.mono ?_
        rintro e w3 (⟨ho, rfl, hg⟩ | ⟨v, r, ho, rfl, hg⟩)
        · have hp3 := hp1.kept hg.2 (by simp; omega)
          have f1 := hp3.free 1
          have c0 := hp3.cells.1
          have c1 := hp3.cells.2.1
          have c2 := hp3.cells.2.2.1
          have c3 := hp3.cells.2.2.2
          have hr3 := Rd.set (j := 1) hg.1 hne (.int .i64 0)
          have hb3 := (hb1.trans (hg.frame hz1 hBb)).setCell (p := ⟨wr.heap.size, 1, none⟩) hz (.int .i64 0)
          clear hg hp1 hr1 hb1 hnum ho hp3
          go_wp2_with (first
            | (go_at_call 18; refine (err_bad _ _ _ hr3).mono ?_; rintro e w' ⟨rfl, rfl⟩)
            | (go_at_call 22; refine (left_list _ [] _ _ hr3).mono ?_; rintro e w' ⟨rfl, rfl⟩))
          go_ret
          exact ⟨rfl, hb3⟩
        · have hp3 := hp1.kept hg.2 (by simp; omega)
          have f1 := hp3.free 1
          have c0 := hp3.cells.1
          have c1 := hp3.cells.2.1
          have c2 := hp3.cells.2.2.1
          have c3 := hp3.cells.2.2.2
          have hr3 := Rd.set (j := 1) hg.1 hne (.int .i64 v)
          have hb3 := (hb1.trans (hg.frame hz1 hBb)).setCell (p := ⟨wr.heap.size, 1, none⟩) hz (.int .i64 v)
          have hz3 := hb3.size
          have hvM := (numRead_len ho).2
          have hrest := (numRead_back ho).1
          have hoct : (⟨0, v, ⟨#[]⟩, false⟩ : Part).oct = octN v := by simp [Part.oct]
          obtain ⟨t, ht⟩ : ∃ t, t = octN v := ⟨_, rfl⟩
          rw [← ht] at hoct hrest
          rw [hrest] at hdl
          have hdr2 := HD.out
          rw [hrest] at hdr2
          have hext := ext_mid s done t r hdr2
          have hsum := congrArg List.length hdr2
          rw [List.length_append, List.length_append, hsl] at hsum
          rw [List.length_append] at hdl
          have hs1 : s.size ≤ done.length + (t.length + r.length) := by omega
          have hs2 : done.length + (t.length + r.length) ≤ s.size := by omega
          have hlay := lay_one w3.heap.size ⟨0, v, ⟨#[]⟩, false⟩ 1 ((w3.setCell ⟨wr.heap.size, 1, none⟩ (.int .i64 v)).alloc (.cells #[.int .i64 0, .int .i64 v, .string ⟨#[]⟩, .bool false] 27)) (by simp)
            (by
              have h := heap_alloc_new (w3.setCell ⟨wr.heap.size, 1, none⟩ (.int .i64 v)) (.cells #[.int .i64 0, .int .i64 v, .string ⟨#[]⟩, .bool false] 27)
              rw [World.size_setCell] at h
              exact PartBlk.cells (p := ⟨0, v, ⟨#[]⟩, false⟩) h) (by show (v : Int) ≤ _; omega) (by rw [hoct]; omega)
          rw [hoct] at hlay
          have hr4 : Rd ((w3.setCell ⟨wr.heap.size, 1, none⟩ (.int .i64 v)).alloc (.cells #[.int .i64 0, .int .i64 v, .string ⟨#[]⟩, .bool false] 27)) b ⟨r.toArray⟩ false := (Below.heap_alloc _ _ b hr3.lt).trans hr3
          have hb4 := hb3.alloc hz3 (.cells #[.int .i64 0, .int .i64 v, .string ⟨#[]⟩, .bool false] 27)
          have hz4 := hb4.size
          have HD2 := Lib.hid hdr2
          clear hg hp1 hr1 hb1 hnum ho hp3 hb3 hsum hdr2 ht hrest hoct
          go_wp2_with (first
            | (go_at_call 18; refine (err_good _ _ _ hr3).mono ?_; rintro e w' ⟨rfl, rfl⟩)
            | (go_at_call 15; refine hlay.mono ?_; rintro e w6 ⟨rfl, hb6⟩)
            | (go_at_call 22; refine (left_list _ r false _ ((hb6.block b hr4.lt).trans hr4)).mono ?_; rintro e w' ⟨rfl, rfl⟩))
          go_roundw
          case rel =>
            refine ⟨k + 1, done ++ t, r, by omega, by go_num, by rw [List.length_append]; go_num, ?_, (hb6.block b hr4.lt).trans hr4, hb4.trans (hb6.mono hz4)⟩
            rw [HD2.out, List.append_assoc]
          case measure => simp [intOf]; omega
      · by_cases h1 : z % 4 = 1
        · rw [h1] at hm
          clear h0 h1
          have hne : b ≠ wr.heap.size := by omega
          have hp1 : PartBlk (wr.alloc (.cells #[.int .i64 1, .int .i64 0, .string ⟨#[]⟩, .bool false] 27)) wr.heap.size ⟨1, 0, ⟨#[]⟩, false⟩ := heap_alloc_new wr _
          have hr1 : Rd (wr.alloc (.cells #[.int .i64 1, .int .i64 0, .string ⟨#[]⟩, .bool false] 27)) b ⟨rest.toArray⟩ false := (Below.heap_alloc wr _ b hbl).trans hrd
          have hb1 := hb.alloc hz (.cells #[.int .i64 1, .int .i64 0, .string ⟨#[]⟩, .bool false] 27)
          have hz1 := hb1.size
          go_wp2_with fail
          have hnum := text_read b false rest (by omega) 1000 (by omega) _ hr1
          refine hnum.mono ?_
          rintro e w3 (⟨ho, rfl, hg⟩ | ⟨v, r, ho, rfl, hg⟩)
          · have hp3 := hp1.kept hg.2 (by simp; omega)
            have f1 := hp3.free 2
            have c0 := hp3.cells.1
            have c1 := hp3.cells.2.1
            have c2 := hp3.cells.2.2.1
            have c3 := hp3.cells.2.2.2
            have hr3 := Rd.set (j := 2) hg.1 hne (.string ⟨#[]⟩)
            have hb3 := (hb1.trans (hg.frame hz1 hBb)).setCell (p := ⟨wr.heap.size, 2, none⟩) hz (.string ⟨#[]⟩)
            clear hg hp1 hr1 hb1 hnum ho hp3
            go_wp2_with (first
              | (go_at_call 18; refine (err_bad _ _ _ hr3).mono ?_; rintro e w' ⟨rfl, rfl⟩)
              | (go_at_call 22; refine (left_list _ [] _ _ hr3).mono ?_; rintro e w' ⟨rfl, rfl⟩))
            go_ret
            exact ⟨rfl, hb3⟩
          · have hp3 := hp1.kept hg.2 (by simp; omega)
            have f1 := hp3.free 2
            have c0 := hp3.cells.1
            have c1 := hp3.cells.2.1
            have c2 := hp3.cells.2.2.1
            have c3 := hp3.cells.2.2.2
            have hr3 := Rd.set (j := 2) hg.1 hne (.string ⟨v.toArray⟩)
            have hb3 := (hb1.trans (hg.frame hz1 hBb)).setCell (p := ⟨wr.heap.size, 2, none⟩) hz (.string ⟨v.toArray⟩)
            have hz3 := hb3.size
            have hrest := (textRead_back ho).1
            have hoct : (⟨1, 0, ⟨v.toArray⟩, false⟩ : Part).oct = octN v.length ++ v := by rfl
            obtain ⟨t, ht⟩ : ∃ t, t = octN v.length ++ v := ⟨_, rfl⟩
            rw [← ht] at hoct hrest
            rw [hrest] at hdl
            have hdr2 := HD.out
            rw [hrest] at hdr2
            have hext := ext_mid s done t r hdr2
            have hsum := congrArg List.length hdr2
            rw [List.length_append, List.length_append, hsl] at hsum
            rw [List.length_append] at hdl
            have hs1 : s.size ≤ done.length + (t.length + r.length) := by omega
            have hs2 : done.length + (t.length + r.length) ≤ s.size := by omega
            have hlay := lay_one w3.heap.size ⟨1, 0, ⟨v.toArray⟩, false⟩ 1 ((w3.setCell ⟨wr.heap.size, 2, none⟩ (.string ⟨v.toArray⟩)).alloc (.cells #[.int .i64 1, .int .i64 0, .string ⟨v.toArray⟩, .bool false] 27)) (by simp)
              (by
                have h := heap_alloc_new (w3.setCell ⟨wr.heap.size, 2, none⟩ (.string ⟨v.toArray⟩)) (.cells #[.int .i64 1, .int .i64 0, .string ⟨v.toArray⟩, .bool false] 27)
                rw [World.size_setCell] at h
                exact PartBlk.cells (p := ⟨1, 0, ⟨v.toArray⟩, false⟩) h) (by show (0 : Int) ≤ 9223372036854775807; decide) (by rw [hoct]; omega)
            rw [hoct] at hlay
            have hr4 : Rd ((w3.setCell ⟨wr.heap.size, 2, none⟩ (.string ⟨v.toArray⟩)).alloc (.cells #[.int .i64 1, .int .i64 0, .string ⟨v.toArray⟩, .bool false] 27)) b ⟨r.toArray⟩ false := (Below.heap_alloc _ _ b hr3.lt).trans hr3
            have hb4 := hb3.alloc hz3 (.cells #[.int .i64 1, .int .i64 0, .string ⟨v.toArray⟩, .bool false] 27)
            have hz4 := hb4.size
            have HD2 := Lib.hid hdr2
            clear hg hp1 hr1 hb1 hnum ho hp3 hb3 hsum hdr2 ht hrest hoct
            go_wp2_with (first
              | (go_at_call 18; refine (err_good _ _ _ hr3).mono ?_; rintro e w' ⟨rfl, rfl⟩)
              | (go_at_call 15; refine hlay.mono ?_; rintro e w6 ⟨rfl, hb6⟩)
              | (go_at_call 22; refine (left_list _ r false _ ((hb6.block b hr4.lt).trans hr4)).mono ?_; rintro e w' ⟨rfl, rfl⟩))
            go_roundw
            case rel =>
              refine ⟨k + 1, done ++ t, r, by omega, by go_num, by rw [List.length_append]; go_num, ?_, (hb6.block b hr4.lt).trans hr4, hb4.trans (hb6.mono hz4)⟩
              rw [HD2.out, List.append_assoc]
            case measure => simp [intOf]; omega

        · obtain ⟨q, hq⟩ : ∃ q, q = z % 4 := ⟨_, rfl⟩
          have e0 : ((q : Int) == 0) = false := by rw [beq_eq_false_iff_ne]; omega
          have e1 : ((q : Int) == 1) = false := by rw [beq_eq_false_iff_ne]; omega
          have q0 : 0 ≤ q := by omega
          have q4 : q < 4 := by omega
          have q2 : 2 ≤ q := by omega
          rw [← hq] at hm
          clear h0 h1 hq
          have hne : b ≠ wr.heap.size := by omega
          have hp1 : PartBlk (wr.alloc (.cells #[.int .i64 q, .int .i64 0, .string ⟨#[]⟩, .bool false] 27)) wr.heap.size ⟨q, 0, ⟨#[]⟩, false⟩ := heap_alloc_new wr _
          have hr1 : Rd (wr.alloc (.cells #[.int .i64 q, .int .i64 0, .string ⟨#[]⟩, .bool false] 27)) b ⟨rest.toArray⟩ false := (Below.heap_alloc wr _ b hbl).trans hrd
          have hb1 := hb.alloc hz (.cells #[.int .i64 q, .int .i64 0, .string ⟨#[]⟩, .bool false] 27)
          have hz1 := hb1.size
          go_wp2_with fail
          have hnum := flag_read b false rest _ hr1
          refine hnum.mono ?_
          rintro e w3 (⟨ho, rfl, hg⟩ | ⟨v, r, ho, rfl, hg⟩)
          · have hp3 := hp1.kept hg.2 (by simp; omega)
            have f1 := hp3.free 3
            have c0 := hp3.cells.1
            have c1 := hp3.cells.2.1
            have c2 := hp3.cells.2.2.1
            have c3 := hp3.cells.2.2.2
            have hr3 := Rd.set (j := 3) hg.1 hne (.bool false)
            have hb3 := (hb1.trans (hg.frame hz1 hBb)).setCell (p := ⟨wr.heap.size, 3, none⟩) hz (.bool false)
            clear hg hp1 hr1 hb1 hnum ho hp3
            go_wp2_with (first
              | (go_at_call 18; refine (err_bad _ _ _ hr3).mono ?_; rintro e w' ⟨rfl, rfl⟩)
              | (go_at_call 22; refine (left_list _ [] _ _ hr3).mono ?_; rintro e w' ⟨rfl, rfl⟩))
            go_ret
            exact ⟨rfl, hb3⟩
          · have hp3 := hp1.kept hg.2 (by simp; omega)
            have f1 := hp3.free 3
            have c0 := hp3.cells.1
            have c1 := hp3.cells.2.1
            have c2 := hp3.cells.2.2.1
            have c3 := hp3.cells.2.2.2
            have hr3 := Rd.set (j := 3) hg.1 hne (.bool v)
            have hb3 := (hb1.trans (hg.frame hz1 hBb)).setCell (p := ⟨wr.heap.size, 3, none⟩) hz (.bool v)
            have hz3 := hb3.size
            have hrest := flagRead_back ho
            have hoct : (⟨q, 0, ⟨#[]⟩, v⟩ : Part).oct = octF v := by unfold Part.oct; rw [if_neg (by show ¬ q % 4 = 0; omega), if_neg (by show ¬ q % 4 = 1; omega)]
            obtain ⟨t, ht⟩ : ∃ t, t = octF v := ⟨_, rfl⟩
            rw [← ht] at hoct hrest
            rw [hrest] at hdl
            have hdr2 := HD.out
            rw [hrest] at hdr2
            have hext := ext_mid s done t r hdr2
            have hsum := congrArg List.length hdr2
            rw [List.length_append, List.length_append, hsl] at hsum
            rw [List.length_append] at hdl
            have hs1 : s.size ≤ done.length + (t.length + r.length) := by omega
            have hs2 : done.length + (t.length + r.length) ≤ s.size := by omega
            have hlay := lay_one w3.heap.size ⟨q, 0, ⟨#[]⟩, v⟩ 1 ((w3.setCell ⟨wr.heap.size, 3, none⟩ (.bool v)).alloc (.cells #[.int .i64 q, .int .i64 0, .string ⟨#[]⟩, .bool v] 27)) (by simp)
              (by
                have h := heap_alloc_new (w3.setCell ⟨wr.heap.size, 3, none⟩ (.bool v)) (.cells #[.int .i64 q, .int .i64 0, .string ⟨#[]⟩, .bool v] 27)
                rw [World.size_setCell] at h
                exact PartBlk.cells (p := ⟨q, 0, ⟨#[]⟩, v⟩) h) (by show (0 : Int) ≤ 9223372036854775807; decide) (by rw [hoct]; omega)
            rw [hoct] at hlay
            have hr4 : Rd ((w3.setCell ⟨wr.heap.size, 3, none⟩ (.bool v)).alloc (.cells #[.int .i64 q, .int .i64 0, .string ⟨#[]⟩, .bool v] 27)) b ⟨r.toArray⟩ false := (Below.heap_alloc _ _ b hr3.lt).trans hr3
            have hb4 := hb3.alloc hz3 (.cells #[.int .i64 q, .int .i64 0, .string ⟨#[]⟩, .bool v] 27)
            have hz4 := hb4.size
            have HD2 := Lib.hid hdr2
            clear hg hp1 hr1 hb1 hnum ho hp3 hb3 hsum hdr2 ht hrest hoct
            go_wp2_with (first
              | (go_at_call 18; refine (err_good _ _ _ hr3).mono ?_; rintro e w' ⟨rfl, rfl⟩)
              | (go_at_call 15; refine hlay.mono ?_; rintro e w6 ⟨rfl, hb6⟩)
              | (go_at_call 22; refine (left_list _ r false _ ((hb6.block b hr4.lt).trans hr4)).mono ?_; rintro e w' ⟨rfl, rfl⟩))
            go_roundw
            case rel =>
              refine ⟨k + 1, done ++ t, r, by omega, by go_num, by rw [List.length_append]; go_num, ?_, (hb6.block b hr4.lt).trans hr4, hb4.trans (hb6.mono hz4)⟩
              rw [HD2.out, List.append_assoc]
            case measure => simp [intOf]; omega

    · have hge : ¬ (k : Int) < (len : Int) := by omega
      clear hlt
      go_wp2
      go_ret
      exact ⟨rfl, hb⟩

theorem walk_long (s : ByteArray) (a : Option Addr) (len cap : Nat) (w : World) (h : 100 < s.size ∨ 20 < len) :
    Calls Try.prog 5 #[.string s, .slice a len cap] w fun e w' => e = .returned (.bool true) ∧ Below w.heap.size w w' := by
  by_cases h1 : 100 < s.size
  · have h1' : (100 : Int) < (s.size : Int) := by omega
    go_enter Try.func5, Try.ntmps5
    go_wp2_with (go_at_call 10; refine (head_any _).mono ?_; rintro e w1 ⟨rfl, hb1⟩)
    go_ret
    exact ⟨rfl, hb1⟩
  · have h1' : ¬ (100 : Int) < (s.size : Int) := by omega
    have h2' : (20 : Int) < (len : Int) := by omega
    go_enter Try.func5, Try.ntmps5
    go_wp2_with (go_at_call 10; refine (head_any _).mono ?_; rintro e w1 ⟨rfl, hb1⟩)
    go_ret
    exact ⟨rfl, hb1⟩

theorem walk_empty (s : ByteArray) (hs : s.size ≤ 100) (a : Option Addr) (cap : Nat) (w : World) :
    Calls Try.prog 5 #[.string s, .slice a 0 cap] w fun e w' => e = .returned (.bool true) ∧ Below w.heap.size w w' := by
  have hs' : ¬ (100 : Int) < (s.size : Int) := by omega
  go_enter Try.func5, Try.ntmps5
  go_wp2_with (first
    | (go_at_call 10; refine (head_any _).mono ?_; rintro e w1 ⟨rfl, hb1⟩)
    | (go_at_call 16; refine (read_any s _).mono ?_; rintro e w2 ⟨rfl, hr2, hb2⟩))
  refine wp_loop_rounds 1 ?_
  rw [rounds_succ]
  go_wp2
  go_ret
  exact ⟨rfl, hb1.trans (hb2.mono hb1.size)⟩

theorem walk (s : ByteArray) (_w0 : s.size ≤ maxLen) (a : Option Addr) (len cap : Nat) (zs : List Int) (w : World) (w1 : IsRow .i64 w a len cap zs) :
    Calls Try.prog 5 #[.string s, .slice a len cap] w fun e w' => e = .returned (.bool true) ∧ Below w.heap.size w w' := by
  by_cases h : 100 < s.size ∨ 20 < len
  · exact walk_long s a len cap w h
  · by_cases h0 : len = 0
    · subst h0
      exact walk_empty s (by omega) a cap w
    · rcases w1 with ⟨_, hl, _⟩ | ⟨x, rfl, hlc, _, hz, hc, _⟩
      · exact absurd hl h0
      · refine walk_some s (by omega) x len cap zs (by omega) (by omega) w ?_ hc
        have := World.block_lt_of_cell? w _ (hc 0 (by omega))
        rwa [add_block] at this
end Go.Proofs.Ytecejmefnbejhaa.octetReads
