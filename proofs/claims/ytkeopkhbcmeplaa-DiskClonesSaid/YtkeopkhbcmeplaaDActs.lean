/-
  The walk of mailbaglaw04.DiskActs.
-/
import Derived.Test.YtkeopkhbcmeplaaMSt
namespace Go.Proofs.Ytkeopkhbcmeplaa
open Go.RowKit

/-- the model, new -/
theorem model_new {w : World} {B : Nat} (hB : B ≤ w.heap.size) (z : Int) : MAt (w.alloc (.cells #[.slice none 0 0, .int .i64 z, .bool false, .int .i64 (-1)] 30)) B w.heap.size (.slice none 0 0) ⟨[], z, false, -1⟩ :=
  ⟨heap_alloc_new w _, World.ownsRow_nil _ _ _ 3, hB⟩

theorem fewB_ok {vs : List ActS} (h : fewB vs = true) : vs.length ≤ 40 ∧ ∀ v ∈ vs, v.data.size ≤ 100 := by
  unfold fewB at h
  rw [Bool.and_eq_true] at h
  exact ⟨of_decide_eq_true h.2, fun v hv => (of_decide_eq_true h.1 v hv).1⟩

def noName : ByteArray := ⟨#[110, 111, 32, 115, 117, 99, 104, 32, 102, 105, 108, 101, 58, 32, 105, 116, 115, 32, 110, 97, 109, 101, 32, 104, 97, 115, 32, 109, 111, 114, 101, 32, 98, 121, 116, 101, 115, 32, 116, 104, 97, 110, 32, 116, 104, 101, 114, 101, 32, 109, 97, 121, 32, 98, 101]⟩

end Go.Proofs.Ytkeopkhbcmeplaa
namespace Go.Proofs.Ytkeopkhbcmeplaa.diskActs
open Go.RowKit

set_option maxHeartbeats 4000000 in
set_option maxRecDepth 100000 in
theorem walk_few {w : World} (z : Int) (a : Option Addr) (len cap : Nat) (vs : List ActS) (hc : ActsCame w a len cap vs) (hf : fewB vs = true) :
    Calls Try.prog 3 #[.int .i64 z, .slice a len cap] w fun e w' => e = .returned (.bool true) ∧ Below w.heap.size w w' := by
  have HFW : Hid (∀ W, Below w.heap.size w W → Calls Try.prog 11 #[.slice a len cap] W fun e w' => e = .returned (.bool true) ∧ Below W.heap.size W w') := Lib.hid fun W hB => by
    have := few_any a len cap vs ⟨hc.1, hc.2.1, hc.2.2.1, hc.2.2.2.1.below hB, hc.2.2.2.2⟩
    rwa [hf] at this
  obtain ⟨rfl, h1, h2, h3, h4⟩ := hc
  have HI := Lib.hid (And.intro h3 (And.intro h4 (fewB_ok hf)))
  have hlen := (fewB_ok hf).1
  clear hf h3 h4
  go_enter Try.func3, Try.ntmps3
  go_wp2_with fail
  refine (dhead_any _).mono ?_
  rintro e w0 ⟨rfl, hb0⟩
  have H0 := Lib.hid hb0
  clear hb0
  go_wp2_with fail
  refine (HFW.out _ H0.out).mono ?_
  rintro e w1 ⟨rfl, hb1⟩
  have H1 := Lib.hid (H0.out.trans (hb1.mono H0.out.size))
  clear hb1 H0
  go_wp2_with fail
  refine (new_dm _ z).mono ?_
  rintro e w2 ⟨d, rfl, hD2, hb2⟩
  have H2 := Lib.hid (And.intro (hD2.base H1.out.size) (H1.out.trans (hb2.mono H1.out.size)))
  clear hD2 hb2 H1
  go_wp2_with fail
  generalize min (max z 0) 1048576 = zz at H2 ⊢
  have HST : Hid (∃ M v, St (w2.alloc (.cells #[.slice none 0 0, .int .i64 zz, .bool false, .int .i64 (-1)] 30)) w.heap.size d 0 w2.heap.size v M M ∧ Below w.heap.size w (w2.alloc (.cells #[.slice none 0 0, .int .i64 zz, .bool false, .int .i64 (-1)] 30))) := Lib.hid (by
    have hb := (Below.refl w2.heap.size w2).alloc (Nat.le_refl _) (.cells #[.slice none 0 0, .int .i64 zz, .bool false, .int .i64 (-1)] 30)
    exact ⟨_, _, ⟨H2.out.1.below hb, model_new H2.out.2.size zz⟩, H2.out.2.trans (hb.mono H2.out.2.size)⟩)
  clear H2
  generalize hmm : w2.heap.size = m at HST ⊢
  clear hmm
  go_loopw [25] (fun i wr => ∃ k : Nat, k ≤ vs.length ∧ i = .int .i64 k ∧ Hid (∃ M v, St wr w.heap.size d k m v M M ∧ Below w.heap.size w wr)) (fun i _ => vs.length - (intOf i).toNat)
  case atStart => exact ⟨0, Nat.zero_le _, rfl, HST⟩
  case round =>
    obtain ⟨k, hk, rfl, HR⟩ := hrel
    clear HST HFW
    by_cases hlt : k < vs.length
    · obtain ⟨M, v, hst, hbw⟩ := HR.out
      obtain ⟨b, off, rfl, hb, hcells⟩ : ∃ b off, a = some ⟨b, off, none⟩ ∧ b < w.heap.size ∧ ∀ i (h : i < vs.length), ActIn w b (off + i * 5) (vs[i]) := by
        rcases HI.out.1 with rfl | h
        · simp at hlt
        · exact h
      obtain ⟨c0, c1, c2, c3, c4⟩ := hcells k hlt
      replace c0 := (hbw.cell (p := ⟨b, off + k * 5, none⟩) hb).trans c0
      replace c1 := (hbw.cell (p := ⟨b, off + k * 5 + 1, none⟩) hb).trans c1
      replace c2 := (hbw.cell (p := ⟨b, off + k * 5 + 2, none⟩) hb).trans c2
      replace c3 := (hbw.cell (p := ⟨b, off + k * 5 + 3, none⟩) hb).trans c3
      replace c4 := (hbw.cell (p := ⟨b, off + k * 5 + 4, none⟩) hb).trans c4
      have hok := HI.out.2.1 _ (List.getElem_mem hlt)
      have hda := HI.out.2.2.2 _ (List.getElem_mem hlt)
      obtain ⟨x, hx⟩ : ∃ x, x = vs[k] := ⟨_, rfl⟩
      rw [← hx] at c0 c1 c2 c3 c4 hok hda
      have hkl : (k : Int) < (vs.length : Int) := by omega
      have HLT := Lib.hid hlt
      have hAl : Below wr.heap.size wr (wr.alloc (.cells #[.int .i64 x.k, .int .i64 x.n, .string x.name, .string x.dest, .string x.data] 32)).drew := ((Below.refl _ wr).alloc (Nat.le_refl _) _).drew
      have hst1 := hst.below hAl
      have hbw1 := hbw.trans (hAl.mono hbw.size)
      have hbx : (wr.alloc (.cells #[.int .i64 x.k, .int .i64 x.n, .string x.name, .string x.dest, .string x.data] 32)).drew.heap[wr.heap.size]? = some (.cells #[.int .i64 x.k, .int .i64 x.n, .string x.name, .string x.dest, .string x.data] 32 (0, 0)) := heap_alloc_new wr _
      obtain ⟨r, hr⟩ : ∃ r, r = M.act x := ⟨_, rfl⟩
      have hplay := play_any hst1.1 (by omega) x hok.1 hok.2.1 hok.2.2.2
      rw [← hr] at hplay
      have HPLAY := Lib.hid hplay
      have HBX : Hid (∀ w4 e, PlayPost (wr.alloc (.cells #[.int .i64 x.k, .int .i64 x.n, .string x.name, .string x.dest, .string x.data] 32)).drew w4 w.heap.size d k r e → e = .returned (.int .i64 r.1) ∧ St w4 w.heap.size d (k + 1) m v r.2 M ∧ Below w.heap.size w w4 ∧ ABox w4 wr.heap.size x ∧ Calls Try.prog 14 #[.pointer (some ⟨m, 0, none⟩), .agg #[.int .i64 x.k, .int .i64 x.n, .string x.name, .string x.dest, .string x.data]] w4 fun e w' => DoPost w4 w' w.heap.size m v r e) := Lib.hid fun w4 e hp => by
        obtain ⟨q1, q2, q3, q4⟩ := hst1.played hp
        refine ⟨q1, q2, hbw1.trans q3, (q4 _ _ _ _ hbx ⟨by decide, by decide, by decide, by decide⟩).trans hbx, ?_⟩
        have hkn := hst.1.known
        rw [hr]
        exact do_any q2.2 x (by omega) hkn.1 (by omega) ⟨hkn.2.2.1, hkn.2.2.2.1, hkn.2.2.2.2.1, hkn.2.2.2.2.2.1, hkn.2.2.2.2.2.2.1⟩
      have HRK := Lib.hid hk
      clear hx hcells hb hlt hst hbw hok hda hAl hst1 hbw1 hbx hr hplay
      go_upto_region 10 with (fail)
      go_cut [41] (fun s wx => s = .bool false ∧ Hid (∃ M v, St wx w.heap.size d (k + 1) m v M M ∧ Below w.heap.size w wx))
      case first =>
        go_region_with (first
          | (go_at_call 13; refine HPLAY.out.mono ?_; rintro e w4 hp4; obtain ⟨rfl, hs4, hb4, hx4, hdo4⟩ := HBX.out w4 e hp4; have HDO4 := Lib.hid hdo4; obtain ⟨z0, z1, z2, z3, z4⟩ := hx4.five; have HS4 := Lib.hid (And.intro hs4 hb4); clear hp4 hs4 hb4 hx4 hdo4)
          | (go_at_call 14; refine HDO4.out.mono ?_; rintro e w5 hd5; obtain ⟨rfl, ⟨v5, hs5⟩, hb5, _⟩ := HS4.out.1.done hd5; have HS5 := Lib.hid (And.intro hs5 (HS4.out.2.trans hb5)); clear hd5 hs5 hb5)
          | (go_at_call 15; refine (same_any HS5.out.1.1 HS5.out.1.2 (by have := HRK.out; omega)).mono ?_; rintro e w6 ⟨rfl, hb6⟩; have HS6 := Lib.hid (And.intro (HS5.out.1.below hb6) (HS5.out.2.trans (hb6.mono HS5.out.2.size))); clear hb6))
        all_goals
          go_wp2_with fail
          go_meet
          exact ⟨rfl, Lib.hid ⟨_, _, HS6.out⟩⟩
      case rest =>
        obtain ⟨rfl, HC⟩ := hcut
        obtain ⟨M', v', hs, hb⟩ := HC.out
        have hrd := read_dm hs.1 noName (by decide)
        rw [rd_long hs.1 (by decide)] at hrd
        have HS := Lib.hid (And.intro hs hb)
        have HC2 : Hid (∀ W, Below wc.heap.size wc W → W.cell? ⟨m, 2, none⟩ = some (.bool M'.down) ∧ (∃ M v, St W w.heap.size d (k + 1) m v M M ∧ Below w.heap.size w W)) := Lib.hid fun W hB => ⟨((hs.2.below hB).cells.1).2.2.1, _, _, hs.below hB, hb.trans (hB.mono hb.size)⟩
        cases hdn : M'.down
        · rw [hdn] at hrd HC2
          simp only [Bool.false_eq_true, if_false] at hrd
          have HRD := Lib.hid hrd
          clear hrd hs hb hdn c0 c1 c2 c3 c4
          go_wp2_with fail
          refine HRD.out.mono ?_
          rintro e w5 ⟨rfl, hb5⟩
          obtain ⟨y2, hfin⟩ := HC2.out w5 hb5
          have HF := Lib.hid hfin
          clear hb5 hfin HC2 HRD
          go_wp2
          go_roundw
          case rel => exact ⟨k + 1, by have := HLT.out; omega, by go_num, HF⟩
          case measure => have := HLT.out; simp [intOf]; omega
        · rw [hdn] at hrd HC2
          simp only [if_true] at hrd
          have HRD := Lib.hid hrd
          clear hrd hs hb hdn c0 c1 c2 c3 c4
          go_wp2_with fail
          refine HRD.out.mono ?_
          rintro e w5 ⟨rfl, hb5⟩
          obtain ⟨y2, hfin⟩ := HC2.out w5 hb5
          have HF := Lib.hid hfin
          clear hb5 hfin HC2 HRD
          go_wp2
          go_roundw
          case rel => exact ⟨k + 1, by have := HLT.out; omega, by go_num, HF⟩
          case measure => have := HLT.out; simp [intOf]; omega
    · obtain rfl : k = vs.length := by omega
      have hge : ¬ (vs.length : Int) < (vs.length : Int) := by omega
      have HF : Hid (Below w.heap.size w wr) := Lib.hid (by obtain ⟨_, _, _, h⟩ := HR.out; exact h)
      clear hlt HR
      go_wp2
      go_ret
      exact ⟨rfl, HF.out⟩

theorem walk {w : World} (z : Int) (_ : Lit.wf (.int .i64 z) = true) (a : Option Addr) (len cap : Nat) (hc : ∃ vs, ActsCame w a len cap vs) :
    Calls Try.prog 3 #[.int .i64 z, .slice a len cap] w fun e w' => e = .returned (.bool true) ∧ Below w.heap.size w w' := by
  obtain ⟨vs, hc⟩ := hc
  cases hf : fewB vs with
  | true => exact walk_few z a len cap vs hc hf
  | false =>
    have HFW : Hid (∀ W, Below w.heap.size w W → Calls Try.prog 11 #[.slice a len cap] W fun e w' => e = .returned (.bool false) ∧ Below W.heap.size W w') := Lib.hid fun W hB => by
      have := few_any a len cap vs ⟨hc.1, hc.2.1, hc.2.2.1, hc.2.2.2.1.below hB, hc.2.2.2.2⟩
      rwa [hf] at this
    clear hc hf
    go_enter Try.func3, Try.ntmps3
    go_wp2_with fail
    refine (dhead_any _).mono ?_
    rintro e w0 ⟨rfl, hb0⟩
    have H0 := Lib.hid hb0
    clear hb0
    go_wp2_with fail
    refine (HFW.out _ H0.out).mono ?_
    rintro e w1 ⟨rfl, hb1⟩
    have H1 := Lib.hid (H0.out.trans (hb1.mono H0.out.size))
    clear hb1 H0
    go_wp2
    go_ret
    exact ⟨rfl, H1.out⟩

end Go.Proofs.Ytkeopkhbcmeplaa.diskActs
