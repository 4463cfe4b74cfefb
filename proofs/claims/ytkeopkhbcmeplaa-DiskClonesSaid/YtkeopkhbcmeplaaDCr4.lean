/-
  disk.Crash: the walk.
-/
import Derived.Test.YtkeopkhbcmeplaaDCr3
namespace Go.Proofs.Ytkeopkhbcmeplaa
open Go.RowKit

theorem Bs.mono {E B B' : Nat} {w : World} {v : Value} {l : List UInt8} (h : Bs E B w v l) (hb : B' ≤ B) : Bs E B' w v l := ⟨h.1, h.2.imp id fun ⟨g, cap, cur, e1, e2, r⟩ => ⟨g, cap, cur, e1, Nat.le_trans hb e2, r⟩⟩

theorem len_one {fs : List FP} (h : sumP fs ≤ 1000000000) : ∀ p ∈ fs, p.1.data.length ≤ 1000000000 := fun p hp => by
  have : p.1.data.length ≤ sumP fs := by
    clear h
    unfold sumP
    induction fs with
    | nil => cases hp
    | cons y r ih =>
      rw [List.map_cons, List.sum_cons]
      rcases List.mem_cons.1 hp with rfl | hp
      · omega
      · have := ih hp; omega
  omega

/-- the round's two calls, as one contract for the last -/
theorem crash_put {w wr : World} {B d mb n : Nat} {S : DS} {fs : List FP} {more : Nat → Int} {dc mc nb k : Nat} (hR : CrRel w wr B d mb n S fs more dc mc nb k) (hk : k < fs.length) (hwlt : ∀ q, Foot d mb fs q → q < w.heap.size) (hI : Inv S (fl fs)) (hm : fs.length ≤ 100000)
    (p : FP) (hp : p = fs[k]) (Z : Nat) (hZ : Z = crZ p.1.data.length p.1.safe (more k)) (w4 : World) (v : Value) (hB : Below wr.heap.size wr w4) (hv : Bs 5 wr.heap.size w4 v (p.1.data.take Z)) :
    Calls Try.prog 33 #[.pointer (some ⟨dc, 0, none⟩), .string ⟨p.1.name.toArray⟩, .agg #[v, .int .i64 Z]] w4 fun e w' => e = .returned (.tuple #[]) ∧ Hid (CrRel w w' B d mb n S fs more dc mc nb (k + 1)) := by
  obtain ⟨nn, cs, hnn, hfs, hnew, hold, hb, hn, hne, hltn⟩ := hR
  have hz := hb.size
  have hpm : p ∈ fs := hp ▸ List.getElem_mem _
  have hsum : sumP fs ≤ 1000000000 := by
    have h1 := hI.used
    have h2 := hI.fits
    have h3 := hI.room1
    rw [← fl_sum] at h1; omega
  have hcs : sumP cs ≤ 1000000000 := by
    have h1 := crash_sum (more := more) ((fl fs).take k) fun f hf => hI.safe f (List.mem_of_mem_take hf)
    have h2 := sumF_take (fl fs) k
    rw [fl_sum, hfs]
    rw [fl_sum] at hsum
    omega
  have hvb : ∀ q, v.ownBlock = some q → wr.heap.size ≤ q := fun q hq => (World.ownsRow.lt hv q hq).1
  have hft := hnew.foot_lt
  have hnew4 : DiskAt w4 w.heap.size dc mc nn ⟨S.room, sumP cs, false, 0, false⟩ cs := hnew.keep fun q hq => hB.block q (hft q hq)
  have hl := rise_take (more := more) hI.rise hk hfs
  rw [← hp] at hl
  refine (put_last w4 hnew4 ⟨p.1.name.toArray⟩ (by
      have := hI.short _ (mem_fl hpm)
      have e : (⟨p.1.name.toArray⟩ : ByteArray).size = p.1.name.length := by show p.1.name.toArray.size = _; simp
      rw [e]; unfold maxLen; omega) ⟨p.1.name, p.1.data.take Z, Z⟩ rfl hl v (by omega) (Bs.mono hv hz) (fun e => by have := hvb dc e; have := hft dc (.inl rfl); omega) (fun e => by have := hvb mc e; have := hft mc (.inr (.inl rfl)); omega) (fun q hq => ?_) hcs ?_).mono ?_
  · by_cases h0 : v.ownBlock = none
    · exact .inl h0
    · refine .inr fun e => ?_
      obtain ⟨g, hg⟩ := Option.ne_none_iff_exists'.1 h0
      have := hvb g hg
      have := hft g (.inr (.inr ⟨q, hq, by rw [← e]; exact hg⟩))
      omega
  · show (p.1.data.take Z).length ≤ _
    have := len_one hsum p hpm
    rw [List.length_take]; omega
  · rintro e w5 ⟨rfl, hD, hK⟩
    exact ⟨rfl, crash_go hk hfs hnn ⟨p.1.name, p.1.data.take Z, Z⟩ (by rw [hZ, hp]) hnew hold hb hn hne hltn hwlt hB hvb hD hK⟩

set_option maxHeartbeats 4000000 in
set_option maxRecDepth 100000 in
theorem crash_disk {B d mb n : Nat} {S : DS} {fs : List FP} (w : World) (h : DiskAt w B d mb n S fs) (hI : Inv S (fl fs)) (hm : fs.length ≤ 100000) (a : Option Addr) (len cap : Nat) (zs : List Int) (hrow : IsRow .i64 w a len cap zs) :
    Calls Try.prog 17 #[.pointer (some ⟨d, 0, none⟩), .slice a len cap] w fun e w' => NewDisk w w' S.room (crashF (moreAt zs len) (fl fs)) e := by
  obtain ⟨⟨c0, c1, c2, c3, c4, c5⟩, _⟩ := Box.six h.1
  have HI := Lib.hid hI
  have HH := Lib.hid h
  have HROW := Lib.hid hrow
  have HNEW : Hid (∀ W, Calls Try.prog 12 #[.int .i64 S.room] W fun e w' => ∃ d mb, e = .returned (.pointer (some ⟨d, 0, none⟩)) ∧ DiskAt w' W.heap.size d mb 0 ⟨S.room, 0, false, 0, false⟩ [] ∧ Below W.heap.size W w') := Lib.hid fun W => by
    have := new_any W S.room
    have h0 := hI.room0
    have h1 := hI.room1
    rwa [show min (max S.room 0) 1048576 = S.room by omega] at this
  have HSUM : Hid (sumP fs ≤ 1000000000) := Lib.hid (by
    have h1 := hI.used
    have h2 := hI.fits
    have h3 := hI.room1
    rw [← fl_sum] at h1; omega)
  clear hI h hrow
  go_enter Try.func17, Try.ntmps17
  go_wp2_with fail
  refine (HNEW.out _).mono ?_
  rintro e w1 ⟨dc, mc, rfl, hD1, hB1⟩
  have hO1 : DiskAt w1 B d mb n S fs := HH.out.keep fun q hq => hB1.block q (HH.out.foot_lt q hq)
  have HN1 := Lib.hid (names_at w1 hO1 ((fl_rise _).2 HI.out.rise) (by omega))
  have HD1 := Lib.hid (And.intro hD1 (And.intro hO1 hB1))
  clear hD1 hB1 hO1 HNEW c0 c1 c2 c3 c4 c5
  go_wp2_with fail
  refine HN1.out.mono ?_
  rintro e w2 ⟨v, rfl, hrow2, hB2⟩
  by_cases h0 : fs.length = 0
  · have hnil : fs = [] := List.eq_nil_of_length_eq_zero h0
    have hv : ∃ a2 c2, v = .slice a2 0 c2 := by
      rcases hrow2.2 with ⟨rfl, _⟩ | ⟨g, cap, cur, rfl, _⟩
      · exact ⟨_, _, rfl⟩
      · exact ⟨_, _, by rw [h0]⟩
    obtain ⟨a2, c2, rfl⟩ := hv
    have HFIN : Hid (NewDisk w w2 S.room (crashF (moreAt zs len) (fl fs)) (.returned (.pointer (some ⟨dc, 0, none⟩)))) := Lib.hid (by
      subst hnil
      exact ⟨dc, mc, 0, [], rfl, Nat.zero_le _, rfl, HD1.out.1.keep (fun q hq => hB2.block q (HD1.out.1.foot_lt q hq)), HD1.out.2.2.trans (hB2.mono HD1.out.2.2.size)⟩)
    clear hrow2 hB2 hnil h0
    go_wp2
    refine wp_loop_rounds 1 ?_
    rw [rounds_succ]
    go_wp2
    go_ret
    exact HFIN.out
  · obtain ⟨nb, c, rfl, hnb1, hnb2, hNR⟩ := nrow_of hrow2 (by omega)
    have HST : Hid (CrRel w w2 B d mb n S fs (moreAt zs len) dc mc nb 0) := Lib.hid (by
      obtain ⟨hD1, hO1, hB1⟩ := HD1.out
      exact ⟨0, [], Nat.le_refl _, rfl, hD1.keep (fun q hq => hB2.block q (hD1.foot_lt q hq)), hO1.keep (fun q hq => hB2.block q (hO1.foot_lt q hq)), hB1.trans (hB2.mono hB1.size), hNR, fun q hq => by have := hD1.foot_lt q hq; omega, hnb2⟩)
    clear hrow2 hB2 hNR hnb1 hnb2 HD1 HN1 h0
    go_wp2_with fail
    go_loopw [20] (fun i wr => ∃ k : Nat, k ≤ fs.length ∧ i = .int .i64 k ∧ Hid (CrRel w wr B d mb n S fs (moreAt zs len) dc mc nb k)) (fun i _ => fs.length - (intOf i).toNat)
    case atStart => exact ⟨0, Nat.zero_le _, rfl, HST⟩
    case round =>
      obtain ⟨k, hk, rfl, HR⟩ := hrel
      clear HST
      by_cases hlt : k < fs.length
      · obtain ⟨nn, cs, hnn, hfs, hnew, hold, hb, hn, hne, hltn⟩ := HR.out
        have hk' : k < (fl fs).length := by rw [fl_length]; exact hlt
        have hname := hn k hk'
        have hfk : (fl fs)[k] = (fs[k]).1 := by simp [fl]
        rw [hfk] at hname
        obtain ⟨p, hp⟩ : ∃ p, p = fs[k] := ⟨_, rfl⟩
        have hpm : p ∈ fs := hp ▸ List.getElem_mem _
        rw [← hp] at hname
        have hgs : getP p.1.name fs = some p := getP_self ((fl_rise _).2 HI.out.rise) p hpm
        obtain ⟨⟨c0, c1, c2, c3, c4, c5⟩, _⟩ := Box.six hold.1
        have hsz : (⟨p.1.name.toArray⟩ : ByteArray).size ≤ 40 := by
          have := HI.out.short _ (mem_fl hpm)
          show p.1.name.toArray.size ≤ 40
          simpa using this
        have hlk := look_any hold ⟨p.1.name.toArray⟩ (Nat.le_trans hsz (by unfold maxLen; omega))
        obtain ⟨a1, c1', l, sf, hlkr, hrowl, _, _, _, _, hget⟩ := hlk
        have hget2 : l = p.1.data ∧ sf = p.1.safe := by
          rcases hget with ⟨g1, _⟩ | ⟨p2, g1, g2, g3, _⟩
          · rw [show (⟨p.1.name.toArray⟩ : ByteArray).data.toList = p.1.name from rfl, hgs] at g1; cases g1
          · rw [show (⟨p.1.name.toArray⟩ : ByteArray).data.toList = p.1.name from rfl, hgs] at g1
            obtain rfl := Option.some.inj g1
            exact ⟨g2, g3⟩
        obtain ⟨rfl, rfl⟩ := hget2
        have HC : Hid (∀ more : Int, Calls Try.prog 34 #[.agg #[.slice a1 p.1.data.length c1', .int .i64 p.1.safe], .int .i64 more] wr fun e w' => ∃ v, e = .returned (.agg #[v, .int .i64 (crZ p.1.data.length p.1.safe more)]) ∧ Bs 5 wr.heap.size w' v (p.1.data.take (crZ p.1.data.length p.1.safe more)) ∧ Below wr.heap.size wr w') := Lib.hid fun more =>
          (crash_any wr a1 c1' p.1.data p.1.safe more hrowl (HI.out.safe _ (mem_fl hpm)) (len_one HSUM.out p hpm)).mono fun e w' ⟨v, e1, e2, e3⟩ => ⟨v, e1, e2, e3⟩
        have HP := Lib.hid (crash_put HR.out hlt HH.out.foot_lt HI.out hm p hp _ rfl)
        have hlkr' : (Instr.lookup 61 (.map (some mb)) (.string ⟨p.1.name.toArray⟩) false).run Try.prog wr = .ok (.agg #[.slice a1 p.1.data.length c1', .int .i64 p.1.safe]) wr := hlkr
        have HBW := Lib.hid hb
        clear hnew hold hn hne hlkr hrowl hget hgs hpm hp hb hfs
        have hlen : (k : Int) < (fs.length : Int) := by omega
        by_cases hkl : k < len
        · obtain ⟨x, rfl, hx⟩ := moreAt_in HROW.out k hkl
          have hx2 : wr.cell? (x.add k) = some (.int .i64 (moreAt zs len k)) := (HBW.out.cell (World.block_lt_of_cell? w _ hx)).trans hx
          have HC2 := Lib.hid (HC.out (moreAt zs len k))
          generalize crZ p.1.data.length p.1.safe (moreAt zs len k) = Z at HC2 HP
          generalize moreAt zs len k = mo at hx hx2 HC2
          have hkl2 : (k : Int) < (len : Int) := by omega
          clear hx hkl
          go_wp2_with fail
          refine HC2.out.mono ?_
          rintro e w4 ⟨v, rfl, hv4, hb4⟩
          have HP4 := Lib.hid (HP.out w4 v hb4 hv4)
          clear hv4 hb4
          go_wp2_with fail
          refine HP4.out.mono ?_
          rintro e w5 ⟨rfl, HR5⟩
          go_wp2
          go_roundw
          case rel => exact ⟨k + 1, by omega, by go_num, HR5⟩
          case measure => simp [intOf]; omega
        · have hkl2 : ¬ (k : Int) < (len : Int) := by omega
          have hmo : moreAt zs len k = 0 := by unfold moreAt; rw [if_neg hkl]
          have HC2 := Lib.hid (HC.out 0)
          rw [hmo] at HP
          generalize crZ p.1.data.length p.1.safe 0 = Z at HC2 HP
          clear hmo hkl
          go_wp2_with fail
          refine HC2.out.mono ?_
          rintro e w4 ⟨v, rfl, hv4, hb4⟩
          have HP4 := Lib.hid (HP.out w4 v hb4 hv4)
          clear hv4 hb4
          go_wp2_with fail
          refine HP4.out.mono ?_
          rintro e w5 ⟨rfl, HR5⟩
          go_wp2
          go_roundw
          case rel => exact ⟨k + 1, by omega, by go_num, HR5⟩
          case measure => simp [intOf]; omega
      · obtain rfl : k = fs.length := by omega
        have HFIN : Hid (NewDisk w wr S.room (crashF (moreAt zs len) (fl fs)) (.returned (.pointer (some ⟨dc, 0, none⟩)))) := Lib.hid (by
          obtain ⟨nn, cs, hnn, hfs, hnew, hold, hb, hn, hne, hltn⟩ := HR.out
          rw [show (fl fs).take fs.length = fl fs by rw [← fl_length, List.take_length]] at hfs
          exact ⟨dc, mc, nn, cs, rfl, by rw [crashF_length, fl_length]; exact hnn, hfs, hnew, hb⟩)
        have hge : ¬ (fs.length : Int) < (fs.length : Int) := by omega
        clear hlt
        go_wp2
        go_ret
        exact HFIN.out

end Go.Proofs.Ytkeopkhbcmeplaa
