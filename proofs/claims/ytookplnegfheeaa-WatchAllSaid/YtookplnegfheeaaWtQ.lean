/-
  watch.Poll of a store that has the commits of a list: what it answers, in the list's words.
-/
import Derived.Test.YtookplnegfheeaaWB
import Derived.Test.YtookplnegfheeaaWtHd
namespace Go.Proofs.Ytookplnegfheeaa.wT
open Go.RowKit Go.Proofs.Ytookplnegfheeaa.tC Go.Proofs.Ytookplnegfheeaa.sT Go.Proofs.Ytookplnegfheeaa.storeFrees

set_option linter.unusedVariables false
set_option linter.unusedSimpArgs false

/-- what Poll answers, in the list's words -/
structure PlO (W W' : World) (L : List CmM) (m : Nat) (p : ByteArray) (most : Int) (n : Nat) (oa : Option Addr) (oc mk : Nat) : Prop where
  low : Below W.heap.size W W'
  list : CmsOwn W.heap.size W' (.slice oa n oc) ((told p (L.drop m)).take n)
  num : ((told p (L.drop m)).take n).length = n
  len : (n : Int) = min most ((told p (L.drop m)).length : Int)
  lo : m ≤ mk
  hi : mk ≤ L.length
  part : told p (L.take mk) = told p (L.take m) ++ (told p (L.drop m)).take n
  full : (n : Int) = most → ∃ c, (told p (L.drop m))[n - 1]? = some c ∧ c.seq = (mk : Int)
  rest : (n : Int) ≠ most → mk = L.length
  up : m < L.length → m < mk

theorem poll_gen {P : Nat → Prop} {W : World} {s : Nat} {M : StM} (h0 : StoreAt P W s M) {N : Nat} (hg : SG M N) (hN : N ≤ 900000) {L : List CmM} (hs : SeqsL L) (hlow : M.low ≤ L.length) (hL : M.cms = L.drop M.low) (m : Nat) (hm1 : M.low ≤ m) (hm2 : m ≤ L.length) (p : ByteArray) (hp : p.size ≤ 400) (most : Int) (h1 : 1 ≤ most) (h2 : most ≤ 100) :
    Calls Try.prog 37 #[.pointer (some ⟨s, 0, none⟩), .int .i64 (m : Int), .string p, .int .i64 most] W fun e W' => ∃ n oa oc mk, e = .returned (.tuple #[.agg #[.slice oa n oc, .int .i64 ((mk : Nat) : Int)], .int .i64 0]) ∧ Hid (PlO W W' L m p most n oa oc mk) := by
  have hlen : M.cms.length = L.length - M.low := by rw [hL, List.length_drop]
  have hdrop : M.cms.drop (m - M.low) = L.drop m := by rw [hL, List.drop_drop]; congr 1; omega
  refine (poll_told h0 hg hN (m - M.low) (by omega) (m : Int) (by omega) p hp most h1 h2).mono ?_
  rintro e W' ⟨hb, z, oa, oc, mk, hz, hlt, hend, hmk, he, hci⟩
  rw [hdrop] at hz hlt hend hmk he hci
  have hO := poll_plain hs hm2 h1 hz hlt hend hmk
  have hO2 := hO
  obtain ⟨z2, q1, q2, q3, q4, q5⟩ := hO2
  have hdl : (L.drop m).length = L.length - m := List.length_drop
  have htk := hO.take
  have hln := hO.len hm2
  obtain ⟨n, hn⟩ : ∃ n, n = (told p ((L.drop m).take z)).length := ⟨_, rfl⟩
  rw [← hn] at htk hln he hci q4 q5
  rw [htk] at hci
  have hnum : ((told p (L.drop m)).take n).length = n := by rw [← htk, hn]
  refine ⟨n, oa, oc, m + z2, by rw [he, q3], Lib.hid ⟨hb, hci, hnum, hln, by omega, by omega, ?_, ?_, ?_, ?_⟩⟩
  · rw [← htk, q2, ← told_app, List.take_add]
  · intro h
    have := hO.mark hs (fun y hy => ?_) h1 (by rw [← hn]; exact h)
    · rw [← hn] at this
      obtain ⟨c, c1, c2⟩ := this
      exact ⟨c, c1, by rw [c2, q3]⟩
    · have hz0 : mk = (m : Int) + z := by
        rw [hmk]
        by_cases hz0 : 0 < z
        · rw [dif_pos ⟨hz0, hz⟩, List.getElem_drop, hs _ (by omega)]; omega
        · rw [dif_neg (fun h => hz0 h.1)]; omega
      exact hlt y (by omega)
  · intro h
    rcases q5 with q5 | q5
    · exact absurd q5 h
    · exact q5
  · intro h
    rcases q5 with q5 | q5
    · cases z2 with
      | zero =>
        rw [q2] at hn
        simp [told] at hn
        omega
      | succ _ => omega
    · omega

/-- a store that made made -/
theorem made_sg (wss : List (List Wr)) (hl : wss.length ≤ 1000) (k : Nat) (hk : k ≤ wss.length) : SG ((madeM 0 [] (listC 1 wss)).vacuum k) (wss.length * 13) ∧ ((madeM 0 [] (listC 1 wss)).vacuum k).low = k ∧ ((madeM 0 [] (listC 1 wss)).vacuum k).cms = (listC 1 wss).drop k := by
  have hg := sg17 wss (by omega) wss.length (Nat.le_refl _)
  rw [show (listC 1 wss).take wss.length = listC 1 wss by rw [← listC_len 1 wss, List.take_length]] at hg
  obtain ⟨q1, q2⟩ := madeM_low 0 [] (listC 1 wss)
  refine ⟨hg.vacuum (by rw [q2, listC_len]; exact hk), ?_, ?_⟩
  · have : ((madeM 0 [] (listC 1 wss)).vacuum k).low = (madeM 0 [] (listC 1 wss)).low + k := rfl
    rw [this, q1]; omega
  · have : ((madeM 0 [] (listC 1 wss)).vacuum k).cms = (madeM 0 [] (listC 1 wss)).cms.drop k := rfl
    rw [this, q2]

/-- a commit of a list in memory -/
theorem cis_get {W : World} {a : Option Addr} {cs : List CmM} (h : CIs W a cs) {z : Nat} (hz : z < cs.length) : ∃ b off wa wc, a = some ⟨b, off, none⟩ ∧ b < W.heap.size ∧ W.cell? ⟨b, off + z * 3, none⟩ = some (.int .i64 (cs[z]).seq) ∧ W.cell? ⟨b, off + z * 3 + 1, none⟩ = some (.int .i64 (cs[z]).at_) ∧ W.cell? ⟨b, off + z * 3 + 2, none⟩ = some (.slice wa (cs[z]).ws.length wc) ∧ WrsIs W wa (cs[z]).ws := by
  rcases h with h | ⟨b, off, e, hlt, hv⟩
  · rw [h] at hz; simp at hz
  · obtain ⟨m0, m1, wa, wc, m2, hw⟩ := hv z hz
    exact ⟨b, off, wa, wc, e, hlt, m0, m1, m2, hw⟩
theorem told_ws {p : ByteArray} {cs : List CmM} {N : Nat} (h : ∀ c ∈ cs, c.ws.length ≤ N) : ∀ c ∈ told p cs, c.ws.length ≤ N := fun c hc => by
  obtain ⟨d, hd, rfl⟩ := List.mem_map.1 (List.mem_filter.1 hc).1
  exact Nat.le_trans (begF_len p d.ws) (h d hd)

/-- two commits that are one -/
theorem same_one {W : World} {wa va : Option Addr} {wc vc : Nat} (c : CmM) (hw : WrsIs W wa c.ws) (hv : WrsIs W va c.ws) (hl : c.ws.length ≤ 1000000) (w' : World) (hb : Below W.heap.size W w') :
    Calls Try.prog 39 #[.agg #[.int .i64 c.seq, .int .i64 c.at_, .slice wa c.ws.length wc], .agg #[.int .i64 c.seq, .int .i64 c.at_, .slice va c.ws.length vc]] w' fun e w2 => e = .returned (.bool true) ∧ Below w'.heap.size w' w2 := by
  refine (same_any (cap1 := wc) (cap2 := vc) (hw.below hb) rfl (hv.below hb) rfl hl hl c.seq c.at_ c.seq c.at_).mono ?_
  rintro e w2 ⟨rfl, h⟩
  exact ⟨by rw [smB_true ⟨rfl, rfl, rfl⟩], h⟩

end Go.Proofs.Ytookplnegfheeaa.wT
