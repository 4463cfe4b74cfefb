/-
  schema: a collection's indexes as bytes: Encode's contract.
-/
import Derived.Test.YtidbiefenjnodaaSIx
import Derived.Test.YtidbiefenjnodaaBsK
import Derived.Test.YtidbiefenjnodaaLay
namespace Go.Proofs.Ytidbiefenjnodaa
open Go.RowKit bsK

set_option linter.unusedVariables false

def octI (x : Ix) : List UInt8 := octT x.name ++ (octT x.field ++ octF x.uniq)
def octIs (xs : List Ix) : List UInt8 := octN xs.length ++ xs.flatMap octI

theorem octT_len9 (s : ByteArray) (h : s.size ≤ 5000) : (octT s).length ≤ 5009 := by
  unfold octT
  have := octN_lt s.size (by omega)
  rw [List.length_append]
  have h2 : s.data.toList.length = s.size := Array.length_toList
  omega
theorem octI_len (x : Ix) (h : x.name.size ≤ 5000 ∧ x.field.size ≤ 5000) : (octI x).length ≤ 10100 := by
  unfold octI
  have h1 := octT_len9 x.name h.1
  have h2 := octT_len9 x.field h.2
  rw [List.length_append, List.length_append]
  have : (octF x.uniq).length = 1 := rfl
  omega
theorem flatI_len : ∀ (xs : List Ix), (∀ x ∈ xs, x.name.size ≤ 5000 ∧ x.field.size ≤ 5000) → (xs.flatMap octI).length ≤ 10100 * xs.length
  | [], _ => by simp
  | x :: r, h => by
    have h1 := octI_len x (h x List.mem_cons_self)
    have h2 := flatI_len r fun y hy => h y (List.mem_cons_of_mem _ hy)
    rw [List.flatMap_cons, List.length_append, List.length_cons]
    omega
theorem flatI_take (xs : List Ix) (k : Nat) (h : k < xs.length) : (xs.take (k + 1)).flatMap octI = (xs.take k).flatMap octI ++ octI xs[k] := by
  rw [List.take_succ_eq_append_getElem h, List.flatMap_append]
  simp

set_option maxHeartbeats 2000000 in
set_option maxRecDepth 100000 in
theorem cenc_any {w : World} {a : Option Addr} {len cap : Nat} {xs : List Ix} (h : IxsIs w a xs) (hl : xs.length = len) (hle : len ≤ 1000000) (hsz : ∀ x ∈ xs, x.name.size ≤ 5000 ∧ x.field.size ≤ 5000) (nm : ByteArray) :
    Calls Try.prog 9 #[.agg #[.string nm, .slice a len cap]] w fun e w' => e = .returned (.string ⟨(octIs xs).toArray⟩) ∧ Below w.heap.size w w' := by
  have HW := Lib.hid h
  have HL := Lib.hid hl
  have HSZ := Lib.hid hsz
  have hb0 := (Below.refl _ w).alloc (Nat.le_refl _) (.cells #[.string nm, .slice a len cap] 25)
  have hx1 : ∀ i, (w.alloc (.cells #[.string nm, .slice a len cap] 25)).cell? ⟨w.heap.size, i, none⟩ = (#[.string nm, .slice a len cap] : Array Value)[i]? := fun i => cell_of_row _ _ i _ _ (0, 0) (heap_alloc_new w _)
  obtain ⟨W0, hW0⟩ : ∃ W0, W0 = (w.alloc (.cells #[.string nm, .slice a len cap] 25)) := ⟨_, rfl⟩
  rw [← hW0] at hb0 hx1
  have hz0 : W0.heap.size = w.heap.size + 1 := by rw [hW0]; simp
  have hnum := num_nat (w.heap.size + 1) (.slice none 0 0) [] len (by omega) W0 (by simp) (by omega) (Bs.nil _ _ _)
  -- what is owned, ahead of which what
  obtain ⟨P, hP⟩ : ∃ P : World → Value → List UInt8 → Prop, P = fun wr x l => Bs 5 (w.heap.size + 1) wr x l ∧ Below w.heap.size w wr ∧ wr.cell? ⟨w.heap.size, 1, none⟩ = some (.slice a len cap) ∧ w.heap.size + 1 ≤ wr.heap.size := ⟨_, rfl⟩
  have step : ∀ {wr wr' : World} {x x' : Value} {l l' : List UInt8}, P wr x l → Bs 5 (w.heap.size + 1) wr' x' l' → Up wr x wr' x' → P wr' x' l' := fun {wr wr' x x' l l'} hp hb hu => by
    rw [hP] at hp ⊢
    obtain ⟨h1, h2, h3, h4⟩ := hp
    have hbb : Below (w.heap.size + 1) wr wr' := hu.below h1 h4
    exact ⟨hb, h2.trans (hbb.mono (by omega)), (hbb.cell (p := ⟨w.heap.size, 1, none⟩) (by show w.heap.size < _; omega)).trans h3, Nat.le_trans h4 hu.1.size⟩
  obtain ⟨L0, hL0⟩ : ∃ L0, L0 = octN len := ⟨_, rfl⟩
  have h9 := octN_lt len (by omega)
  have HN : Hid (∀ e w1, NumPost (w.heap.size + 1) (.slice none 0 0) [] len W0 e w1 → ∃ v1, e = .returned v1 ∧ w1.cell? ⟨w.heap.size, 1, none⟩ = some (.slice a len cap) ∧ Hid (P w1 v1 (L0 ++ (xs.take 0).flatMap octI))) := Lib.hid fun e w1 h1 => by
    obtain ⟨v1, rfl, ho, hu⟩ := h1
    have h0 : P W0 (.slice none 0 0) [] := by
      rw [hP]
      exact ⟨Bs.nil _ _ _, hb0, hx1 1, by omega⟩
    have := step h0 ho hu
    refine ⟨v1, rfl, ?_, Lib.hid (by rw [hL0]; simpa using this)⟩
    rw [hP] at this
    exact this.2.2.1
  have HRD : Hid (∀ k, k < len → ∀ (hk : k < xs.length) (wr : World) (x : Value), P wr x (L0 ++ (xs.take k).flatMap octI) → ∃ b off, a = some ⟨b, off, none⟩ ∧ IxIn wr b (off + k * 3) xs[k] ∧
      Calls Try.prog 33 #[x, .string xs[k].name] (wr.alloc (.cells (#[.string xs[k].name, .string xs[k].field, .bool xs[k].uniq]) 32)) fun e w1 => ∃ v1, e = .returned v1 ∧ w1.cell? ⟨wr.heap.size, 1, none⟩ = some (.string xs[k].field) ∧
        Hid (Calls Try.prog 33 #[v1, .string xs[k].field] w1 fun e w2 => ∃ v2, e = .returned v2 ∧ w2.cell? ⟨wr.heap.size, 2, none⟩ = some (.bool xs[k].uniq) ∧
          Hid (Calls Try.prog 34 #[v2, .bool xs[k].uniq] w2 fun e w3 => ∃ v3, e = .returned v3 ∧ Hid (P w3 v3 (L0 ++ (xs.take (k + 1)).flatMap octI))))) := Lib.hid fun k hkl hk wr x hx => by
    obtain ⟨b, off, e, hb, hin, _⟩ := HW.out.at_ k hk
    have hx0 := hx
    rw [hP] at hx0
    obtain ⟨ho, hbw, hcl1, hzr⟩ := hx0
    have hin2 : IxIn wr b (off + k * 3) xs[k] := by
      obtain ⟨h0, h1, h2⟩ := hin
      exact ⟨(hbw.cell (p := ⟨b, _, none⟩) hb).trans h0, (hbw.cell (p := ⟨b, _, none⟩) hb).trans h1, (hbw.cell (p := ⟨b, _, none⟩) hb).trans h2⟩
    obtain ⟨y, hy⟩ : ∃ y, y = xs[k] := ⟨_, rfl⟩
    have hys := HSZ.out y (by rw [hy]; exact List.getElem_mem hk)
    have hnx := flatI_take xs k hk
    rw [← hy] at hin2 hnx ⊢
    have hfl := flatI_len (xs.take k) fun z hz => HSZ.out z (List.mem_of_mem_take hz)
    have hfl2 : (xs.take k).length ≤ len := by rw [List.length_take]; omega
    obtain ⟨M, hM⟩ : ∃ M, M = L0 ++ (xs.take k).flatMap octI := ⟨_, rfl⟩
    have hMl : M.length ≤ 1000100 + 10100 * 1000000 := by rw [hM, List.length_append, hL0]; have : 10100 * (xs.take k).length ≤ 10100 * 1000000 := Nat.mul_le_mul_left _ (by omega); omega
    rw [← hM] at hx ho
    have hga := World.grownBy_alloc wr (.cells (#[.string y.name, .string y.field, .bool y.uniq]) 32) none
    have hal : Bs 5 (w.heap.size + 1) (wr.alloc (.cells (#[.string y.name, .string y.field, .bool y.uniq]) 32)) x M := ho.grow hga
    have hp0 : P (wr.alloc (.cells (#[.string y.name, .string y.field, .bool y.uniq]) 32)) x M := by
      rw [hP]
      have hab := (Below.refl wr.heap.size wr).alloc (Nat.le_refl _) (.cells (#[.string y.name, .string y.field, .bool y.uniq]) 32)
      exact ⟨hal, hbw.alloc hbw.size _, (hab.cell (p := ⟨w.heap.size, 1, none⟩) (by show w.heap.size < _; omega)).trans hcl1, by simp; omega⟩
    have hbx : ∀ i, (wr.alloc (.cells (#[.string y.name, .string y.field, .bool y.uniq]) 32)).cell? ⟨wr.heap.size, i, none⟩ = (#[.string y.name, .string y.field, .bool y.uniq] : Array Value)[i]? := fun i => cell_of_row _ _ i _ _ (0, 0) (heap_alloc_new wr _)
    have hne : x.ownBlock ≠ some wr.heap.size := fun e => by have := (ho.size _ e).2; omega
    have hcl : wr.heap.size < (wr.alloc (.cells (#[.string y.name, .string y.field, .bool y.uniq]) 32)).heap.size := by simp
    have hk5 := octT_len9 y.name hys.1
    have hk6 := octT_len9 y.field hys.2
    have hsz0 : w.heap.size + 1 ≤ (wr.alloc (.cells (#[.string y.name, .string y.field, .bool y.uniq]) 32)).heap.size := by simp; omega
    refine ⟨b, off, e, hin2, (text_any (w.heap.size + 1) x M y.name _ (by omega) hsz0 hal).mono ?_⟩
    rintro e1 w1 ⟨v1, rfl, hown1, hup1⟩
    have hz1 := hup1.1.size
    have hp1 := step hp0 hown1 hup1
    refine ⟨v1, rfl, (hup1.cell hcl hne 1).trans (hbx 1), Lib.hid ((text_any (w.heap.size + 1) v1 _ y.field w1 (by rw [List.length_append]; omega) (by omega) hown1).mono ?_)⟩
    rintro e2 w2 ⟨v2, rfl, hown2, hup2⟩
    have hz2 := hup2.1.size
    have hne1 := hup1.ne hcl hne
    have hp2 := step hp1 hown2 hup2
    have hc2 := (hup2.cell (c := wr.heap.size) (by omega) hne1 2).trans ((hup1.cell hcl hne 2).trans (hbx 2))
    refine ⟨v2, rfl, hc2, Lib.hid ((flag_any (w.heap.size + 1) v2 _ y.uniq w2 (by rw [List.length_append, List.length_append]; omega) (by omega) hown2).mono ?_)⟩
    rintro e3 w3 ⟨v3, rfl, hown3, hup3⟩
    have hp3 := step hp2 hown3 hup3
    refine ⟨v3, rfl, Lib.hid ?_⟩
    rw [hnx, ← List.append_assoc, ← hM]
    unfold octI
    rw [← List.append_assoc, ← List.append_assoc]
    exact hp3
  have HF : Hid (∀ wr x, P wr x (L0 ++ (xs.take len).flatMap octI) → (convert 59 9 x).run Try.prog wr = .ok (.string ⟨(octIs xs).toArray⟩) wr ∧ Below w.heap.size w wr) := Lib.hid fun wr x hx => by
    rw [hP] at hx
    obtain ⟨ho, hbw, _⟩ := hx
    rw [List.take_of_length_le (by omega), hL0] at ho
    refine ⟨?_, hbw⟩
    have hcv := conv_bs (P := Try.prog) 5 (w.heap.size + 1) wr 59 9 Try.underlying59 Try.underlying5 Try.underlying9 x _ ho
    unfold octIs
    rw [hl]
    exact hcv
  have hc1 := hx1 1
  obtain ⟨R, hR⟩ : ∃ R, R = (octIs xs).toArray := ⟨_, rfl⟩
  rw [← hR] at HF ⊢
  clear h hl hsz h9 hL0 step hP hx1 hb0 hz0 hR
  go_enter Try.func9, Try.ntmps9
  go_wp2_with fail
  rw [← hW0]
  refine hnum.mono ?_
  intro e w1 hp
  obtain ⟨v1, rfl, hc2, H1⟩ := HN.out e w1 hp
  clear hp HN hnum hc1 hW0
  go_wp2_with fail
  clear hc2
  go_loopw [3, 13] (fun x c wr => ∃ k : Nat, k ≤ len ∧ c = .int .i64 (k : Int) ∧ Hid (P wr x (L0 ++ (xs.take k).flatMap octI))) (fun _ c _ => len - (intOf c).toNat)
  case atStart => exact ⟨0, Nat.zero_le _, rfl, H1⟩
  case round =>
    obtain ⟨k, hk, rfl, hst⟩ := hrel
    clear H1
    by_cases hlt : k < len
    · have hk2 : k < xs.length := by rw [HL.out]; exact hlt
      obtain ⟨b, off, rfl, ⟨q0, q1, q2⟩, hc⟩ := HRD.out k hlt hk2 wr u3 hst.out
      have HC := Lib.hid hc
      clear hc HRD hst HF
      go_wp2_with fail
      refine HC.out.mono ?_
      rintro e w2 ⟨v2, rfl, hc2, HC2⟩
      clear HC
      go_wp2_with fail
      refine HC2.out.mono ?_
      rintro e w3 ⟨v3, rfl, hc3, HC3⟩
      clear HC2 hc2
      go_wp2_with fail
      refine HC3.out.mono ?_
      rintro e w4 ⟨v4, rfl, HS⟩
      clear HC3 hc3
      go_wp2
      go_roundw
      case rel => exact ⟨k + 1, by omega, by simp, HS⟩
      case measure => simp [intOf]; omega
    · obtain rfl : k = len := by omega
      obtain ⟨hcv, hb⟩ := HF.out wr u3 hst.out
      have HB := Lib.hid hb
      clear hb hlt HRD HF
      go_wp2
      go_ret
      exact ⟨rfl, HB.out⟩

end Go.Proofs.Ytidbiefenjnodaa
