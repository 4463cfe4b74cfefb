/-
  wire: an answer's bytes: Encode's contract.
-/
import Derived.Test.YtcncoppnkodhmabWAns
namespace Go.Proofs.Ytcncoppnkodhmab
open Go.RowKit bsK Go.Proofs.Ytcncoppnkodhmab.tRow

set_option linter.unusedVariables false
set_option linter.unusedSimpArgs false

/-- an answer's bytes -/
def octAn (e n : Nat) (ps : List ByteArray) : List UInt8 := octN e ++ (octN n ++ (octN ps.length ++ ps.flatMap octT))
/-- what is owned while an answer is laid -/
def AnI (w : World) (c : Array Value) (wr : World) (x : Value) (l : List UInt8) : Prop := Bs 5 (w.heap.size + 1) wr x l ∧ Box wr w.heap.size 35 c ∧ Below w.heap.size w wr ∧ w.heap.size + 1 ≤ wr.heap.size
theorem AnI.step {w wr wr' : World} {c : Array Value} {x x' : Value} {l l' : List UInt8} (h : AnI w c wr x l) (hb : Bs 5 (w.heap.size + 1) wr' x' l') (hu : Up wr x wr' x') : AnI w c wr' x' l' := by
  obtain ⟨h1, h2, h3, h4⟩ := h
  have hbb : Below (w.heap.size + 1) wr wr' := hu.below h1 h4
  exact ⟨hb, (hbb.block _ (by omega)).trans h2, h3.trans (hbb.mono (by omega)), Nat.le_trans h4 hu.1.size⟩

set_option maxHeartbeats 4000000 in
set_option maxRecDepth 100000 in
theorem waenc_any {w : World} (e n : Int) (he : e ≤ 9223372036854775807) (hn : n ≤ 9223372036854775807) {a : Option Addr} {cap : Nat} {ps : List ByteArray} (h1 : SRow w a ps) (hle : ps.length ≤ 1000000) (hfl : (ps.flatMap octT).length ≤ 1000000) (hps : ∀ s ∈ ps, s.size ≤ 1000000) :
    Calls Try.prog 16 #[.agg #[.int .i64 e, .int .i64 n, .slice a ps.length cap]] w fun r w' => r = .returned (.string ⟨(octAn e.toNat n.toNat ps).toArray⟩) ∧ Below w.heap.size w w' := by
  obtain ⟨c, hc⟩ : ∃ c : Array Value, c = #[.int .i64 e, .int .i64 n, .slice a ps.length cap] := ⟨_, rfl⟩
  have hx0 : Box (w.alloc (.cells #[.int .i64 e, .int .i64 n, .slice a ps.length cap] 35)) w.heap.size 35 c := by rw [hc]; exact Box.new w _ _
  have HC : Hid (∀ wr x l, AnI w c wr x l → wr.cell? ⟨w.heap.size, 0, none⟩ = some (.int .i64 e) ∧ wr.cell? ⟨w.heap.size, 1, none⟩ = some (.int .i64 n) ∧ wr.cell? ⟨w.heap.size, 2, none⟩ = some (.slice a ps.length cap)) := Lib.hid fun wr x l h => by
    have h2 := h.2.1
    rw [hc] at h2
    exact ⟨h2.cell 0, h2.cell 1, h2.cell 2⟩
  have h0 : AnI w c (w.alloc (.cells #[.int .i64 e, .int .i64 n, .slice a ps.length cap] 35)) (.slice none 0 0) [] := ⟨Bs.nil _ _ _, hx0, (Below.refl _ w).alloc (Nat.le_refl _) _, by rw [World.size_alloc]; omega⟩
  have hn9 := octN_lt n.toNat (by omega)
  have he9 := octN_lt e.toNat (by omega)
  have hl9 := octN_lt ps.length (by omega)
  have HN1 : Hid (Calls Try.prog 18 #[.slice none 0 0, .int .i64 e] (w.alloc (.cells #[.int .i64 e, .int .i64 n, .slice a ps.length cap] 35)) fun r w' => ∃ v, r = .returned v ∧ Hid (AnI w c w' v (octN e.toNat))) := Lib.hid (by
    refine (num_any (w.heap.size + 1) _ [] e he _ (by simp) h0.2.2.2 h0.1).mono ?_
    rintro r w2 ⟨v, rfl, hb, hu⟩
    exact ⟨v, rfl, Lib.hid (by have := h0.step hb hu; simpa using this)⟩)
  have HN2 : Hid (∀ wr v, AnI w c wr v (octN e.toNat) → Calls Try.prog 18 #[v, .int .i64 n] wr fun r w' => ∃ v', r = .returned v' ∧ Hid (AnI w c w' v' (octN e.toNat ++ octN n.toNat))) := Lib.hid fun wr v h => by
    refine (num_any (w.heap.size + 1) v _ n hn _ (by omega) h.2.2.2 h.1).mono ?_
    rintro r w2 ⟨v', rfl, hb, hu⟩
    exact ⟨v', rfl, Lib.hid (h.step hb hu)⟩
  obtain ⟨L0, hL0⟩ : ∃ L0, L0 = octN e.toNat ++ octN n.toNat ++ octN ps.length := ⟨_, rfl⟩
  have hL0l : L0.length ≤ 27 := by rw [hL0, List.length_append, List.length_append]; omega
  have HN3 : Hid (∀ wr v, AnI w c wr v (octN e.toNat ++ octN n.toNat) → Calls Try.prog 18 #[v, .int .i64 (ps.length : Int)] wr fun r w' => ∃ v', r = .returned v' ∧ Hid (AnI w c w' v' (L0 ++ (ps.take 0).flatMap octT))) := Lib.hid fun wr v h => by
    refine (num_nat (w.heap.size + 1) v _ ps.length (by omega) _ (by rw [List.length_append]; omega) h.2.2.2 h.1).mono ?_
    rintro r w2 ⟨v', rfl, hb, hu⟩
    exact ⟨v', rfl, Lib.hid (by have := h.step hb hu; rw [hL0]; simpa using this)⟩
  have HT : Hid (∀ k (hk : k < ps.length) wr v, AnI w c wr v (L0 ++ (ps.take k).flatMap octT) → (∃ b off, a = some ⟨b, off, none⟩ ∧ wr.cell? ⟨b, off + k, none⟩ = some (.string ps[k])) ∧ Calls Try.prog 20 #[v, .string ps[k]] wr fun r w' => ∃ v', r = .returned v' ∧ Hid (AnI w c w' v' (L0 ++ (ps.take (k + 1)).flatMap octT))) := Lib.hid fun k hk wr v h => by
    obtain ⟨b, off, e1, hlt, hc1⟩ := srow_at h1 k hk
    refine ⟨⟨b, off, e1, (h.2.2.1.cell (p := ⟨b, off + k, none⟩) hlt).trans hc1⟩, ?_⟩
    have h3 : ((ps.take k).flatMap octT).length ≤ (ps.flatMap octT).length := by
      conv => rhs; rw [← List.take_append_drop k ps, List.flatMap_append, List.length_append]
      omega
    have h4 := hps ps[k] (List.getElem_mem hk)
    refine (text_any (w.heap.size + 1) v _ ps[k] wr (by rw [List.length_append]; omega) h.2.2.2 h.1).mono ?_
    rintro r w2 ⟨v', rfl, hb, hu⟩
    refine ⟨v', rfl, Lib.hid ?_⟩
    have := h.step hb hu
    rw [List.take_succ_eq_append_getElem hk, List.flatMap_append, ← List.append_assoc]
    simpa using this
  have HF : Hid (∀ wr x, AnI w c wr x (L0 ++ (ps.take ps.length).flatMap octT) → (convert 44 9 x).run Try.prog wr = .ok (.string ⟨(octAn e.toNat n.toNat ps).toArray⟩) wr ∧ Hid (Below w.heap.size w wr)) := Lib.hid fun wr x hx => by
    have ho := hx.1
    rw [List.take_length, hL0, List.append_assoc, List.append_assoc] at ho
    exact ⟨bsK.conv_bs (P := Try.prog) 5 (w.heap.size + 1) wr 44 9 Try.underlying44 Try.underlying5 Try.underlying9 x _ ho, Lib.hid hx.2.2.1⟩
  obtain ⟨y0, y1, y2⟩ := HC.out _ _ _ h0
  obtain ⟨R, hR⟩ : ∃ R, R = (octAn e.toNat n.toNat ps).toArray := ⟨_, rfl⟩
  rw [← hR] at HF ⊢
  obtain ⟨len, hlen⟩ : ∃ len, len = ps.length := ⟨_, rfl⟩
  have HLEN := Lib.hid hlen
  rw [← hlen] at y2 HC HN1 HN3 HF hle ⊢
  clear h1 hfl hps hc hx0 h0 hn9 he9 hl9 hL0 hL0l hR hlen he hn
  go_enter Try.func16, Try.ntmps16
  go_wp2_with fail
  refine HN1.out.mono ?_
  rintro r w1 ⟨v1, rfl, H1⟩
  clear HN1 y0 y1 y2
  obtain ⟨y0, y1, y2⟩ := HC.out _ _ _ H1.out
  have HN2' := Lib.hid (HN2.out _ _ H1.out)
  clear HN2 H1
  go_wp2_with fail
  refine HN2'.out.mono ?_
  rintro r w2 ⟨v2, rfl, H2⟩
  clear HN2' y0 y1 y2
  obtain ⟨y0, y1, y2⟩ := HC.out _ _ _ H2.out
  have HN3' := Lib.hid (HN3.out _ _ H2.out)
  clear HN3 H2
  go_wp2_with fail
  refine HN3'.out.mono ?_
  rintro r w3 ⟨v3, rfl, H3⟩
  clear HN3' y0 y1 y2
  obtain ⟨y0, y1, y2⟩ := HC.out _ _ _ H3.out
  go_wp2_with fail
  clear y0 y1 y2 HC
  go_loopw [21, 3] (fun i x wr => ∃ k : Nat, k ≤ len ∧ i = .int .i64 (k : Int) ∧ Hid (AnI w c wr x (L0 ++ (ps.take k).flatMap octT))) (fun i _ _ => len - (intOf i).toNat)
  case atStart => exact ⟨0, Nat.zero_le _, rfl, H3⟩
  case round =>
    obtain ⟨k, hk, rfl, hst⟩ := hrel
    clear H3
    by_cases hlt : k < len
    · have hltI : (k : Int) < (len : Int) := by omega
      obtain ⟨⟨b, off, rfl, c1⟩, hcall⟩ := HT.out k (by rw [← HLEN.out]; exact hlt) wr _ hst.out
      have HCALL := Lib.hid hcall
      clear hcall hst HT HF
      go_wp2_with fail
      refine HCALL.out.mono ?_
      rintro r w4 ⟨v4, rfl, H4⟩
      clear HCALL
      go_wp2_with fail
      go_roundw
      case rel => exact ⟨k + 1, by omega, by go_num, H4⟩
      case measure => simp [intOf]; omega
    · obtain rfl : k = len := by omega
      have hge : ¬ ((k : Int) < (k : Int)) := by omega
      obtain ⟨hcv, HB⟩ := HF.out wr _ hst.out
      clear hst HT HF
      go_wp2
      go_ret
      exact ⟨rfl, HB.out⟩

end Go.Proofs.Ytcncoppnkodhmab
