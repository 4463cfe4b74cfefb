/-
  wire: a question's bytes: Encode's contract.
-/
import Derived.Test.YtcncoppnkodhmabWAsk
namespace Go.Proofs.Ytcncoppnkodhmab
open Go.RowKit bsK

set_option linter.unusedVariables false
set_option linter.unusedSimpArgs false

/-- the op, and the first k texts -/
def Ak.layT (q : Ak) : Nat → List UInt8
  | 0 => octN q.op.toNat
  | k + 1 => q.layT k ++ octT (q.tx k)
/-- all texts, and the first k numbers -/
def Ak.layN (q : Ak) : Nat → List UInt8
  | 0 => q.layT 4
  | k + 1 => q.layN k ++ octN (q.nu k).toNat
/-- a question's bytes -/
def octA (q : Ak) : List UInt8 := octN q.op.toNat ++ (octT q.a ++ (octT q.b ++ (octT q.c ++ (octT q.d ++ (octN q.n.toNat ++ octN q.m.toNat)))))
theorem Ak.lay_all (q : Ak) : q.layN 2 = octA q := by
  simp only [Ak.layN, Ak.layT, Ak.tx, Ak.nu, octA, List.append_assoc]

theorem octT_lenW (s : ByteArray) (h : s.size ≤ 5000) : (octT s).length ≤ 5009 := by
  unfold octT
  have := octN_lt s.size (by omega)
  rw [List.length_append]
  have h2 : s.data.toList.length = s.size := Array.length_toList
  omega
theorem Ak.layT_len {q : Ak} (h : q.right = true) : ∀ k, (q.layT k).length ≤ 9 + 5009 * k
  | 0 => by have := octN_lt q.op.toNat (by have := (Ak.of_right h).2.2; omega); simpa [Ak.layT] using this
  | k + 1 => by
    have h1 := Ak.layT_len h k
    have h2 := octT_lenW (q.tx k) (by have := (Ak.of_right h).1 k; omega)
    show (q.layT k ++ octT (q.tx k)).length ≤ _
    rw [List.length_append]
    omega
theorem Ak.layN_len {q : Ak} (h : q.right = true) : ∀ k, (q.layN k).length ≤ 20045 + 9 * k
  | 0 => by have := Ak.layT_len h 4; show (q.layT 4).length ≤ _; omega
  | k + 1 => by
    have h1 := Ak.layN_len h k
    have h2 := octN_lt (q.nu k).toNat (by have := (Ak.of_right h).2.1 k; omega)
    show (q.layN k ++ octN (q.nu k).toNat).length ≤ _
    rw [List.length_append]
    omega

set_option maxHeartbeats 2000000 in
set_option maxRecDepth 100000 in
theorem wenc_no (q : Ak) (w : World) (hr : q.right = false) :
    Calls Try.prog 10 #[.agg q.cells] w fun e w' => e = .returned (.tuple #[.string ⟨#[]⟩, .int .i64 1]) ∧ Below w.heap.size w w' := by
  have HB0 : Hid (Box (w.alloc (.cells q.cells 24)) w.heap.size 24 q.cells ∧ Below w.heap.size w (w.alloc (.cells q.cells 24))) := Lib.hid ⟨Box.new _ _ _, (Below.refl _ w).alloc (Nat.le_refl _) _⟩
  have HR := Lib.hid (wright_any q (w.alloc (.cells q.cells 24)))
  rw [hr] at HR
  obtain ⟨y0, y1, y2, y3, y4, y5, y6⟩ := HB0.out.1.seven
  clear hr
  go_enter Try.func10, Try.ntmps10
  go_wp2_with fail
  refine HR.out.mono ?_
  rintro e w1 ⟨rfl, hb⟩
  have HB := Lib.hid (HB0.out.2.trans (hb.mono HB0.out.2.size))
  clear hb HB0 HR y0 y1 y2 y3 y4 y5 y6
  go_wp2
  exact bodyPost_ret (v := .tuple #[.string ⟨#[]⟩, .int .i64 1]) (by simp [results, Try.results10, go_sem]) rfl ⟨rfl, HB.out⟩

/-- what is owned while a question is laid -/
def WaI (w : World) (q : Ak) (wr : World) (x : Value) (l : List UInt8) : Prop := Bs 5 (w.heap.size + 1) wr x l ∧ Box wr w.heap.size 24 q.cells ∧ Below w.heap.size w wr ∧ w.heap.size + 1 ≤ wr.heap.size
theorem WaI.step {w wr wr' : World} {q : Ak} {x x' : Value} {l l' : List UInt8} (h : WaI w q wr x l) (hb : Bs 5 (w.heap.size + 1) wr' x' l') (hu : Up wr x wr' x') : WaI w q wr' x' l' := by
  obtain ⟨h1, h2, h3, h4⟩ := h
  have hbb : Below (w.heap.size + 1) wr wr' := hu.below h1 h4
  exact ⟨hb, (hbb.block _ (by omega)).trans h2, h3.trans (hbb.mono (by omega)), Nat.le_trans h4 hu.1.size⟩
theorem WaI.low {w wr wr' : World} {q : Ak} {x : Value} {l : List UInt8} (h : WaI w q wr x l) (hb : Below wr.heap.size wr wr') : WaI w q wr' x l := by
  obtain ⟨h1, h2, h3, h4⟩ := h
  exact ⟨h1.grow ⟨hb.os, hb.tape, hb.output, hb.size, fun k hk _ => hb.block k hk⟩, (hb.block _ h2.lt).trans h2, h3.trans (hb.mono h3.size), Nat.le_trans h4 hb.size⟩

set_option maxHeartbeats 4000000 in
set_option maxRecDepth 100000 in
theorem wenc_yes (q : Ak) (w : World) (hr : q.right = true) :
    Calls Try.prog 10 #[.agg q.cells] w fun e w' => e = .returned (.tuple #[.string ⟨(octA q).toArray⟩, .int .i64 0]) ∧ Below w.heap.size w w' := by
  have HB0 : Hid (Box (w.alloc (.cells q.cells 24)) w.heap.size 24 q.cells ∧ Below w.heap.size w (w.alloc (.cells q.cells 24))) := Lib.hid ⟨Box.new _ _ _, (Below.refl _ w).alloc (Nat.le_refl _) _⟩
  have HR := Lib.hid (wright_any q (w.alloc (.cells q.cells 24)))
  rw [hr] at HR
  obtain ⟨m, hm⟩ : ∃ m : Nat, q.op = (m : Int) := ⟨q.op.toNat, by have := (Ak.of_right hr).2.2; omega⟩
  have hmb : m ≤ 19 := by have := (Ak.of_right hr).2.2; omega
  have HNUM : Hid (∀ w1, Below (w.alloc (.cells q.cells 24)).heap.size (w.alloc (.cells q.cells 24)) w1 → w1.cell? ⟨w.heap.size, 0, none⟩ = some (.int .i64 q.op) ∧
      Hid (Calls Try.prog 18 #[.slice none 0 0, .int .i64 q.op] w1 fun e w2 => ∃ v, e = .returned v ∧ Hid (WaI w q w2 v (q.layT 0)))) := Lib.hid fun w1 hb1 => by
    have hx : Box w1 w.heap.size 24 q.cells := (hb1.block _ HB0.out.1.lt).trans HB0.out.1
    have hsz := hb1.size
    rw [World.size_alloc] at hsz
    have h0 : WaI w q w1 (.slice none 0 0) [] := ⟨Bs.nil _ _ _, hx, HB0.out.2.trans (hb1.mono HB0.out.2.size), hsz⟩
    refine ⟨hx.cell 0, Lib.hid ?_⟩
    rw [hm]
    refine (num_nat (w.heap.size + 1) _ [] m (by omega) w1 (by simp) hsz h0.1).mono ?_
    rintro e w2 ⟨v, rfl, hb, hu⟩
    refine ⟨v, rfl, Lib.hid ?_⟩
    have := h0.step hb hu
    show WaI w q w2 v (octN q.op.toNat)
    rw [hm]
    simpa using this
  have HT : Hid (∀ k, k < 4 → ∀ wr v, WaI w q wr v (q.layT k) → Calls Try.prog 20 #[v, .string (q.tx k)] wr fun e w2 => ∃ v', e = .returned v' ∧ Hid (WaI w q w2 v' (q.layT (k + 1)))) := Lib.hid fun k hk wr v h => by
    have h1 := Ak.layT_len hr k
    have h2 := (Ak.of_right hr).1 k
    refine (text_any (w.heap.size + 1) v _ (q.tx k) wr (by omega) h.2.2.2 h.1).mono ?_
    rintro e w2 ⟨v', rfl, hb, hu⟩
    exact ⟨v', rfl, Lib.hid (h.step hb hu)⟩
  have HNU : Hid (∀ k, k < 2 → ∀ wr v, WaI w q wr v (q.layN k) → Calls Try.prog 18 #[v, .int .i64 (q.nu k)] wr fun e w2 => ∃ v', e = .returned v' ∧ Hid (WaI w q w2 v' (q.layN (k + 1)))) := Lib.hid fun k hk wr v h => by
    have h1 := Ak.layN_len hr k
    have h2 := (Ak.of_right hr).2.1 k
    refine (num_any (w.heap.size + 1) v _ (q.nu k) (by omega) wr (by omega) h.2.2.2 h.1).mono ?_
    rintro e w2 ⟨v', rfl, hb, hu⟩
    exact ⟨v', rfl, Lib.hid (h.step hb hu)⟩
  obtain ⟨y0, y1, y2, y3, y4, y5, y6⟩ := HB0.out.1.seven
  clear hr hm hmb
  go_enter Try.func10, Try.ntmps10
  go_wp2_with fail
  refine HR.out.mono ?_
  rintro e w1 ⟨rfl, hb⟩
  obtain ⟨c0, HN⟩ := HNUM.out w1 hb
  clear hb HNUM HB0 HR y0 y1 y2 y3 y4 y5 y6
  go_wp2_with fail
  refine HN.out.mono ?_
  rintro e w2 ⟨v, rfl, H2⟩
  clear HN c0
  go_wp2_with fail
  refine (wtexts_any _ _).mono ?_
  rintro e w3 ⟨rfl, hb3⟩
  have H3 : Hid (WaI w q w3 v (q.layT 0)) := Lib.hid (H2.out.low hb3)
  clear hb3 H2
  go_wp2_with fail
  go_loopw [16, 4] (fun i x wr => ∃ k : Nat, k ≤ 4 ∧ i = .int .i64 (k : Int) ∧ Hid (WaI w q wr x (q.layT k))) (fun i _ _ => 4 - (intOf i).toNat)
  case atStart => exact ⟨0, Nat.zero_le _, rfl, H3⟩
  case round =>
    obtain ⟨k, hk, rfl, hst⟩ := hrel
    clear H3
    by_cases hlt : k < 4
    · have hc : wr.cell? ⟨w.heap.size, k + 1, none⟩ = some (.string (q.tx k)) := by
        have := hst.out.2.1.cell (k + 1)
        rw [this]
        obtain rfl | rfl | rfl | rfl : k = 0 ∨ k = 1 ∨ k = 2 ∨ k = 3 := by omega
        all_goals rfl
      obtain ⟨z0, z1, z2, z3⟩ := idx4 (.pointer (some ⟨w.heap.size, 1, none⟩)) (.pointer (some ⟨w.heap.size, 2, none⟩)) (.pointer (some ⟨w.heap.size, 3, none⟩)) (.pointer (some ⟨w.heap.size, 4, none⟩))
      have HC := Lib.hid (HT.out k hlt wr u4 hst.out)
      clear hst HT HNU
      obtain rfl | rfl | rfl | rfl : k = 0 ∨ k = 1 ∨ k = 2 ∨ k = 3 := by omega
      all_goals
        go_wp2_with fail
        refine HC.out.mono ?_
        rintro e w4 ⟨v4, rfl, HS⟩
        clear HC
        go_wp2_with fail
        go_roundw
        case rel => exact ⟨_, by omega, by go_num, HS⟩
        case measure => simp [intOf]
    · obtain rfl : k = 4 := by omega
      have H4 := Lib.hid hst.out
      clear hst HT
      go_wp2_with fail
      refine (wnumbers_any _ _).mono ?_
      rintro e w5 ⟨rfl, hb5⟩
      have H5 : Hid (WaI w q w5 u4 (q.layN 0)) := Lib.hid (H4.out.low hb5)
      clear hb5 H4
      go_wp2_with fail
      go_loopw [26, 4] (fun i x wr => ∃ k : Nat, k ≤ 2 ∧ i = .int .i64 (k : Int) ∧ Hid (WaI w q wr x (q.layN k))) (fun i _ _ => 2 - (intOf i).toNat)
      case atStart => exact ⟨0, Nat.zero_le _, rfl, H5⟩
      case round =>
        obtain ⟨k, hk, rfl, hst⟩ := hrel
        clear H5
        by_cases hlt : k < 2
        · have hc : wr.cell? ⟨w.heap.size, k + 5, none⟩ = some (.int .i64 (q.nu k)) := by
            have := hst.out.2.1.cell (k + 5)
            rw [this]
            obtain rfl | rfl : k = 0 ∨ k = 1 := by omega
            all_goals rfl
          obtain ⟨z0, z1⟩ := idx2 (.pointer (some ⟨w.heap.size, 5, none⟩)) (.pointer (some ⟨w.heap.size, 6, none⟩))
          have HC := Lib.hid (HNU.out k hlt wr _ hst.out)
          clear hst HNU
          obtain rfl | rfl : k = 0 ∨ k = 1 := by omega
          all_goals
            go_wp2_with fail
            refine HC.out.mono ?_
            rintro e w4 ⟨v4, rfl, HS⟩
            clear HC
            go_wp2_with fail
            go_roundw
            case rel => exact ⟨_, by omega, by go_num, HS⟩
            case measure => simp [intOf]
        · obtain rfl : k = 2 := by omega
          have h9 := hst.out
          rw [Ak.lay_all] at h9
          have hcv := conv_bs (P := Try.prog) 5 (w.heap.size + 1) wr 44 9 Try.underlying44 Try.underlying5 Try.underlying9 _ _ h9.1
          have HB := Lib.hid h9.2.2.1
          obtain ⟨L, hL⟩ : ∃ L, L = (octA q).toArray := ⟨_, rfl⟩
          rw [← hL] at hcv
          have HL := Lib.hid hL
          clear hst h9 HNU hL
          go_wp2
          exact bodyPost_ret (v := .tuple #[.string ⟨L⟩, .int .i64 0]) (by simp [results, Try.results10, go_sem]) rfl ⟨by rw [HL.out], HB.out⟩

end Go.Proofs.Ytcncoppnkodhmab
