/-
  OctetLays: the walk.
-/
import Derived.Test.YtecejmefnbejhaaLays
namespace Go.Proofs.Ytecejmefnbejhaa.octetLays
open Go.RowKit
open Go.Proofs.Ytecejmefnbejhaa.octetCuts (layOf_drop layOf_length)

set_option maxHeartbeats 4000000 in
set_option maxRecDepth 100000 in
theorem walk_few (ab : Option Addr) (lenb capb : Nat) (zb : List Int) (w : World) (hb0 : IsRow .u8 w ab lenb capb zb) (a : Option Addr) (len cap : Nat) (ps : List Part) (hps0 : PartRow w a len ps) (hfb : fewB ps = true) (h100 : lenb ≤ 100) :
    Calls Try.prog 3 #[.slice ab lenb capb, .slice a len cap] w fun e w' => e = .returned (.bool true) ∧ Below w.heap.size w w' := by
  have hf' : (∀ p ∈ ps, p.s.size ≤ 300) ∧ ps.length ≤ 20 := of_decide_eq_true hfb
  have hfew := hf'.1
  have hpl : ps.length = len := hps0.1
  have h20 : len ≤ 20 := by rw [← hpl]; exact hf'.2
  have hpn : ∀ p ∈ ps, p.n ≤ 9223372036854775807 := fun p hp => by
    obtain ⟨i, hi, rfl⟩ := List.getElem_of_mem hp
    rcases hps0.2.2 with h | ⟨b, off, _, _, h⟩
    · omega
    · exact (h i hi).2
  have hlen := (layOf_length ps fun p hp => ⟨hfew p hp, hpn p hp⟩).1
  have hll : (layOf ps).length ≤ 8000 := by omega
  have hlb : (bytesOf (zb.take lenb)).length = lenb := by
    rcases hb0 with ⟨_, h, _⟩ | ⟨_, _, h1, _, h2, _⟩
    · simp [bytesOf, h]
    · simp [bytesOf]; omega
  have h100' : ¬ (100 : Int) < (lenb : Int) := by omega
  clear hf' hlen
  obtain ⟨lb, hlbe⟩ : ∃ lb, lb = bytesOf (zb.take lenb) := ⟨_, rfl⟩
  rw [← hlbe] at hlb
  have PL := Lib.hid hpl
  have LB := Lib.hid hlb
  have LE := Lib.hid hlbe
  clear hpl hlb hlbe
  go_enter Try.func3, Try.ntmps3
  go_wp2_with fail
  refine (head_any _).mono ?_
  rintro e w1 ⟨rfl, hb1⟩
  have hz1 := hb1.size
  go_wp2_with fail
  have hfw := few_row a len cap ps w1 (partRow_below hps0 hb1)
  rw [hfb] at hfw
  refine hfw.mono ?_
  rintro e w2 ⟨rfl, hb2'⟩
  have hb2 := hb1.trans (hb2'.mono hz1)
  have hz2 := hb2.size
  clear hb1 hb2' hfw hz1 hfb
  have hrow2 := isRow_below hb0 (hb2.alloc hz2 (.cells #[] 5))
  have hown2 := octetApart.empty_row w2 w.heap.size hz2
  have hbe := hb2.alloc hz2 (.cells #[] 5)
  have hze := hbe.size
  go_wp2_with (at_builtin; refine wpList_app_b _ rfl (.tmp 21) (.tmp 22) 22 rfl 5 w.heap.size Try.underlying22 infoByte _ [] rfl hown2 ab lenb capb zb hrow2 rfl (by simp; omega) hze ?_; intro v3 w3 hown3 hup3)
  rw [List.nil_append, ← LE.out] at hown3
  have hb3 := hbe.trans (hup3.below hown2 hze)
  clear hup3 hown2 hrow2 hbe hze hb2 hz2
  go_loopw [5, 26] (fun x ct wr => ∃ k : Nat, k ≤ len ∧ ct = .int .i64 k ∧ Bs 5 w.heap.size wr x (lb ++ layOf (ps.take k)) ∧ Below w.heap.size w wr) (fun _ ct _ => len - (intOf ct).toNat)
  case atStart => exact ⟨0, Nat.zero_le _, rfl, by simpa [layOf] using hown3, hb3⟩
  case round =>
    obtain ⟨k, hk, rfl, hown, hb⟩ := hrel
    clear hown3 hb3
    have hz := hb.size
    by_cases hlt : k < len
    · obtain ⟨b0, off, hae, hbw, hpa⟩ : ∃ b0 off, a = some ⟨b0, off, none⟩ ∧ b0 < wr.heap.size ∧ PartsAt wr b0 off ps := by
        rcases (partRow_below hps0 hb).2.2 with h | h
        · omega
        · exact h
      subst hae
      have hkp : k < ps.length := by have := PL.out; omega
      obtain ⟨⟨hc0, hc1, hc2, hc3⟩, hn⟩ := hpa k hkp
      have htk := layOf_take ps k hkp
      have hs300 := hfew ps[k] (List.getElem_mem _)
      have hlk : (lb ++ layOf (ps.take k)).length ≤ 8100 := by
        have h1 := (layOf_length (ps.take k) fun p hp => ⟨hfew p (List.mem_of_mem_take hp), hpn p (List.mem_of_mem_take hp)⟩).1
        have h2 : (ps.take k).length ≤ 20 := by simp; omega
        have := LB.out
        rw [List.length_append]; omega
      generalize ps[k] = p at hc0 hc1 hc2 hc3 hn htk hs300
      have HT := Lib.hid htk
      have hm := and_mask2 p.kind
      have hb1 := hb.alloc hz (.cells #[.int .i64 p.kind, .int .i64 p.n, .string p.s, .bool p.yes] 27)
      have hz1 := hb1.size
      have hox1 : Bs 5 w.heap.size (wr.alloc (.cells #[.int .i64 p.kind, .int .i64 p.n, .string p.s, .bool p.yes] 27)) _ (lb ++ layOf (ps.take k)) := World.ownsRow.alloc hown _
      clear htk hown hpa hkp
      by_cases h0 : p.kind % 4 = 0
      · rw [h0] at hm
        have ho : p.oct = octN p.n.toNat := by unfold Part.oct; rw [if_pos h0]
        rw [ho] at HT
        have hcall := num_any w.heap.size _ _ p.n hn _ (by omega) hz1 hox1
        clear h0 ho
        go_wp2_with (go_at_call 12; refine hcall.mono ?_; rintro e w5 ⟨v5, rfl, hox5, hup5⟩)
        go_roundw
        case rel =>
          refine ⟨k + 1, by omega, by go_num, ?_, hb1.trans (hup5.below hox1 hz1)⟩
          rw [HT.out, ← List.append_assoc]
          exact hox5
        case measure => simp [intOf]; omega
      · by_cases h1 : p.kind % 4 = 1
        · rw [h1] at hm
          have ho : p.oct = octT p.s := by unfold Part.oct; rw [if_neg h0, if_pos h1]
          rw [ho] at HT
          have hcall := text_any w.heap.size _ _ p.s _ (by omega) hz1 hox1
          clear h0 h1 ho
          go_wp2_with (go_at_call 13; refine hcall.mono ?_; rintro e w5 ⟨v5, rfl, hox5, hup5⟩)
          go_roundw
          case rel =>
            refine ⟨k + 1, by omega, by go_num, ?_, hb1.trans (hup5.below hox1 hz1)⟩
            rw [HT.out, ← List.append_assoc]
            exact hox5
          case measure => simp [intOf]; omega
        · have ho : p.oct = octF p.yes := by unfold Part.oct; rw [if_neg h0, if_neg h1]
          rw [ho] at HT
          have hcall := flag_any w.heap.size _ _ p.yes _ (by omega) hz1 hox1
          obtain ⟨q, hq⟩ : ∃ q, q = p.kind % 4 := ⟨_, rfl⟩
          have e0 : ((q : Int) == 0) = false := by rw [beq_eq_false_iff_ne]; omega
          have e1 : ((q : Int) == 1) = false := by rw [beq_eq_false_iff_ne]; omega
          rw [← hq] at hm
          clear h0 h1 ho hq
          go_wp2_with (go_at_call 14; refine hcall.mono ?_; rintro e w5 ⟨v5, rfl, hox5, hup5⟩)
          go_roundw
          case rel =>
            refine ⟨k + 1, by omega, by go_num, ?_, hb1.trans (hup5.below hox1 hz1)⟩
            rw [HT.out, ← List.append_assoc]
            exact hox5
          case measure => simp [intOf]; omega
    · have hge : ¬ (k : Int) < (len : Int) := by omega
      rw [List.take_of_length_le (by have := PL.out; omega)] at hown
      have hz2 := hb.size
      have hl1 : lb.length ≤ 100 := by have := LB.out; omega
      have hA : ∀ W : World, (Op.stringOp .add ⟨lb.toArray⟩ ⟨(layOf ps).toArray⟩).run Try.prog W = .ok (.string ⟨(lb ++ layOf ps).toArray⟩) W := fun W => by
        have h := run_string_add_sum (P := Try.prog) W ⟨lb.toArray⟩ ⟨(layOf ps).toArray⟩ (by show lb.length + (layOf ps).length ≤ _; omega)
        rw [cat_list] at h
        exact h
      have cx0 := conv_own (P := Try.prog) 5 w.heap.size wr.drew 22 9 Try.underlying22 Try.underlying5 Try.underlying9 _ _ (show Bs 5 w.heap.size wr.drew _ _ from hown)
      have cb0 := conv_b (P := Try.prog) wr.drew 22 9 5 Try.underlying22 Try.underlying5 Try.underlying9 ab lenb capb zb (isRow_below hb0 hb.drew)
      rw [← LE.out] at cb0
      have hbd := hb.drew
      have hownd : Bs 5 w.heap.size wr.drew u5 (lb ++ layOf ps) := hown
      have hzd := hbd.size
      have hlay := lay_row a len cap ps wr.drew (partRow_below hps0 hb.drew) h20 (by omega)
      clear hlt
      go_wp2_with fail
      go_region_held3 (fun w' => (convert 22 9 u5).run Try.prog w' = .ok (.string ⟨(lb ++ layOf ps).toArray⟩) w' ∧ (convert 22 9 (.slice ab lenb capb)).run Try.prog w' = .ok (.string ⟨lb.toArray⟩) w') (first | go_keep | exact ⟨cx6, cb6⟩ | exact ⟨cx0, cb0⟩)
        (first | (go_at_call 15; refine hlay.mono ?_; rintro e w6 ⟨rfl, hb6⟩; have hown6 := bs_below hownd hb6; have cx6 := conv_own (P := Try.prog) 5 w.heap.size w6 22 9 Try.underlying22 Try.underlying5 Try.underlying9 _ _ hown6; have cb6 := conv_b (P := Try.prog) w6 22 9 5 Try.underlying22 Try.underlying5 Try.underlying9 ab lenb capb zb (isRow_below hb0 (hbd.trans (hb6.mono hzd))); rw [← LE.out] at cb6))
      have hb6w := hbd.trans (hb6.mono hzd)
      have hz6 := hb6w.size
      obtain ⟨v2, hsl, hcv⟩ := suffix_own w.heap.size w6 u5 lb (layOf ps) hown6
      rw [LB.out] at hsl
      clear cx0 cb0 hlay hownd hzd hA hown6 hb hown hbd hb6
      go_wp2_with fail
      refine (read_any ⟨(layOf ps).toArray⟩ _).mono ?_
      rintro e w7 ⟨rfl, hr7, hb7'⟩
      have hb7 := hb6w.trans (hb7'.mono hz6)
      obtain ⟨b, hbe⟩ : ∃ b, b = w6.heap.size := ⟨_, rfl⟩
      rw [← hbe] at hr7 ⊢
      have hBb : w.heap.size ≤ b := by omega
      clear hsl hcv hb6w hz6 hb7' hbe hz hz2
      go_wp2_with fail
      go_loopw [66] (fun ct wr => ∃ k : Nat, k ≤ len ∧ ct = .int .i64 k ∧ Rd wr b ⟨(layOf (ps.drop k)).toArray⟩ false ∧ Below w.heap.size w wr) (fun ct _ => len - (intOf ct).toNat)
      case atStart => exact ⟨0, Nat.zero_le _, rfl, hr7, hb7⟩
      case round =>
        obtain ⟨k, hk, rfl, hrd, hb⟩ := hrel
        clear hr7 hb7
        have hz := hb.size
        have hbl := hrd.lt
        by_cases hlt : k < len
        · obtain ⟨b0, off, hae, hbw, hpa⟩ : ∃ b0 off, a = some ⟨b0, off, none⟩ ∧ b0 < wr.heap.size ∧ PartsAt wr b0 off ps := by
            rcases (partRow_below hps0 hb).2.2 with h | h
            · omega
            · exact h
          subst hae
          have hkp : k < ps.length := by have := PL.out; omega
          obtain ⟨⟨hc0, hc1, hc2, hc3⟩, hn⟩ := hpa k hkp
          have hdk := layOf_drop ps k hkp
          have hs300 := hfew ps[k] (List.getElem_mem _)
          have hRl : (layOf (ps.drop (k + 1))).length ≤ 8000 := by
            have h1 := (layOf_length (ps.drop (k + 1)) fun p hp => ⟨hfew p (List.mem_of_mem_drop hp), hpn p (List.mem_of_mem_drop hp)⟩).1
            have h2 : (ps.drop (k + 1)).length ≤ 20 := by have := PL.out; simp; omega
            omega
          generalize ps[k] = p at hc0 hc1 hc2 hc3 hn hdk hs300
          obtain ⟨R, hR⟩ : ∃ R, R = layOf (ps.drop (k + 1)) := ⟨_, rfl⟩
          rw [← hR] at hdk hRl
          have HR := Lib.hid hR
          rw [hdk] at hrd
          have hm := and_mask2 p.kind
          have hrd1 : Rd (wr.alloc (.cells #[.int .i64 p.kind, .int .i64 p.n, .string p.s, .bool p.yes] 27)).drew b ⟨(p.oct ++ R).toArray⟩ false := (Below.heap_alloc wr _ b hbl).trans hrd
          have hb1 := hb.alloc hz (.cells #[.int .i64 p.kind, .int .i64 p.n, .string p.s, .bool p.yes] 27)
          have hz1 := hb1.size
          have hne : b ≠ wr.heap.size := by omega
          have hblk : PartBlk (wr.alloc (.cells #[.int .i64 p.kind, .int .i64 p.n, .string p.s, .bool p.yes] 27)).drew wr.heap.size p := heap_alloc_new wr _
          have hcells := hblk.cells
          clear hdk hrd hR hpa hkp hblk
          by_cases h0 : p.kind % 4 = 0
          · rw [h0] at hm
            have ho : p.oct = octN p.n.toNat := by unfold Part.oct; rw [if_pos h0]
            rw [ho] at hrd1
            have cj := hcells.2.1
            have hread := num_read b false _ 4611686018427387904 (by decide) _ hrd1
            obtain ⟨M, hM⟩ : ∃ M : Nat, M = (4611686018427387904 : Int).toNat := ⟨_, rfl⟩
            rw [← hM] at hread
            rw [numRead_laid p.n.toNat M R (by omega)] at hread
            have hmx : max p.n 0 = ((p.n.toNat : Nat) : Int) := by omega
            have hM2 : (M : Int) = 4611686018427387904 := by omega
            have hle : p.n.toNat ≤ M ↔ p.n ≤ 4611686018427387904 := by omega
            have hmn1 : p.n ≤ 4611686018427387904 → min ((p.n.toNat : Nat) : Int) 4611686018427387904 = ((p.n.toNat : Nat) : Int) := fun h => by omega
            have hmn2 : ¬ p.n ≤ 4611686018427387904 → min ((p.n.toNat : Nat) : Int) 4611686018427387904 = 4611686018427387904 := fun h => by omega
            generalize p.n.toNat = n0 at hread hmx hle hmn1 hmn2 hrd1 ho
            by_cases hbig : p.n ≤ 4611686018427387904
            · rw [if_pos (hle.2 hbig)] at hread
              have hcall := hread.mono fun e w' hp => hp.got
              have hmn := hmn1 hbig
              have hng : ¬ (4611686018427387904 : Int) < p.n := by omega
              clear h0 ho hread hM hM2 hcells hbig hle hmn1 hmn2
              go_wp2_with fail
              first
                | (go_region_with ((go_at_call 17; refine hcall.mono ?_; rintro e w8 ⟨rfl, hg8⟩; have cj8 := hg8.2.cell cj (by simp; omega))))
                | fail
              all_goals
                have hb8 := hb1.drew.trans (hg8.frame (B := w.heap.size) hz1 hBb)
                have hr8 := hg8.1
                clear hg8 hcall cj hb1
                go_wp2
                go_roundw
                case rel => exact ⟨k + 1, by omega, by go_num, by rw [← HR.out]; exact hr8, hb8⟩
                case measure => simp [intOf]; omega
            · rw [if_neg (fun h => hbig (hle.1 h))] at hread
              have hcall := hread.mono fun e w' hp => hp.gone
              have hmn := hmn2 hbig
              have hg2 : (4611686018427387904 : Int) < p.n := by omega
              clear h0 ho hread hM hM2 hcells hbig hle hmn1 hmn2
              go_wp2_with fail
              first
                | (go_region_with ((go_at_call 17; refine hcall.mono ?_; rintro e w8 ⟨rfl, hg8⟩; have cj8 := hg8.2.cell cj (by simp; omega))))
                | fail
              all_goals
                have hb8 := hb1.drew.trans (hg8.frame (B := w.heap.size) hz1 hBb)
                have hr8 := hg8.1
                clear hg8 hcall cj hb1
                go_wp2_with (go_at_call 18; refine (err_bad _ _ _ hr8).mono ?_; rintro e w' ⟨rfl, rfl⟩)
                go_ret
                exact ⟨rfl, hb8⟩
          · by_cases h1 : p.kind % 4 = 1
            · rw [h1] at hm
              have ho : p.oct = octT p.s := by unfold Part.oct; rw [if_neg h0, if_pos h1]
              rw [ho] at hrd1
              have cj := hcells.2.2.1
              have hlT : (octT p.s ++ R).length ≤ 281474976710656 := by
                have e : p.s.data.toList.length = p.s.size := by simp
                have := octN_lt p.s.size (by omega)
                unfold octT; rw [List.length_append, List.length_append, e]; omega
              have hread := text_read b false _ hlT 300 (by decide) _ hrd1
              rw [textRead_laid p.s _ R (by omega), if_pos (by show p.s.size ≤ 300; exact hs300)] at hread
              have hcall := hread.mono fun e w' hp => hp.got
              simp only [← bytes_of p.s] at hcall
              clear h0 h1 ho hread hcells hlT
              go_wp2_with fail
              go_region_held3 (fun w' => w'.cell? ⟨wr.heap.size, 2, none⟩ = some (.string p.s)) (first | go_keep | exact (hg8.2.cell cj (by simp; omega)))
                (first | (go_at_call 19; refine hcall.mono ?_; rintro e w8 ⟨rfl, hg8⟩))
              have hb8 := hb1.drew.trans (hg8.frame (B := w.heap.size) hz1 hBb)
              have cj8 := hg8.2.cell cj (by simp; omega)
              have hr8 := hg8.1
              clear hg8 hcall cj hb1
              go_wp2
              go_roundw
              case rel => exact ⟨k + 1, by omega, by go_num, by rw [← HR.out]; exact hr8, hb8⟩
              case measure => simp [intOf]; omega
            · have ho : p.oct = octF p.yes := by unfold Part.oct; rw [if_neg h0, if_neg h1]
              rw [ho] at hrd1
              have cj := hcells.2.2.2
              have hread := flag_read b false _ _ hrd1
              rw [flagRead_laid] at hread
              have hcall := hread.mono fun e w' hp => hp.got
              obtain ⟨q, hq⟩ : ∃ q, q = p.kind % 4 := ⟨_, rfl⟩
              have e0 : ((q : Int) == 0) = false := by rw [beq_eq_false_iff_ne]; omega
              have e1 : ((q : Int) == 1) = false := by rw [beq_eq_false_iff_ne]; omega
              rw [← hq] at hm
              clear h0 h1 ho hread hcells hq
              go_wp2_with fail
              go_region_held3 (fun w' => w'.cell? ⟨wr.heap.size, 3, none⟩ = some (.bool p.yes)) (first | go_keep | exact (hg8.2.cell cj (by simp; omega)))
                (first | (go_at_call 20; refine hcall.mono ?_; rintro e w8 ⟨rfl, hg8⟩))
              have hb8 := hb1.drew.trans (hg8.frame (B := w.heap.size) hz1 hBb)
              have cj8 := hg8.2.cell cj (by simp; omega)
              have hr8 := hg8.1
              clear hg8 hcall cj hb1
              go_wp2
              go_roundw
              case rel => exact ⟨k + 1, by omega, by go_num, by rw [← HR.out]; exact hr8, hb8⟩
              case measure => simp [intOf]; omega
        · have hge : ¬ (k : Int) < (len : Int) := by omega
          rw [List.drop_of_length_le (by have := PL.out; omega)] at hrd
          have hrd0 : Rd _ b ⟨#[]⟩ false := hrd
          clear hlt hrd
          go_wp2_with (first
            | (go_at_call 21; (with_reducible refine (end_done _ _ hrd0).mono ?_); rintro e w' ⟨rfl, rfl⟩)
            | (go_at_call 22; refine (left_list _ [] _ _ hrd0).mono ?_; rintro e w' ⟨rfl, rfl⟩))
          go_ret
          exact ⟨rfl, hb⟩

end Go.Proofs.Ytecejmefnbejhaa.octetLays
