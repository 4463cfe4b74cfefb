/-
  wire: ReadAsk's walk.
-/
import Derived.Test.YtcncoppnkodhmabWRead
namespace Go.Proofs.Ytcncoppnkodhmab
open Go.RowKit bsK rdS

set_option linter.unusedVariables false
set_option linter.unusedSimpArgs false

def emp : ByteArray := ⟨#[]⟩
/-- the first k texts of a question, nothing else but the op -/
def Ak.upT (q : Ak) : Nat → Ak
  | 0 => ⟨q.op, ⟨#[]⟩, ⟨#[]⟩, ⟨#[]⟩, ⟨#[]⟩, 0, 0⟩
  | 1 => ⟨q.op, q.a, ⟨#[]⟩, ⟨#[]⟩, ⟨#[]⟩, 0, 0⟩
  | 2 => ⟨q.op, q.a, q.b, ⟨#[]⟩, ⟨#[]⟩, 0, 0⟩
  | 3 => ⟨q.op, q.a, q.b, q.c, ⟨#[]⟩, 0, 0⟩
  | _ => ⟨q.op, q.a, q.b, q.c, q.d, 0, 0⟩
def Ak.upM (q : Ak) : Nat → Ak
  | 0 => ⟨q.op, q.a, q.b, q.c, q.d, 0, 0⟩
  | 1 => ⟨q.op, q.a, q.b, q.c, q.d, q.n, 0⟩
  | _ => q
theorem Ak.upT_set (q : Ak) (k : Nat) (hk : k < 4) : (q.upT k).cells.setIfInBounds (k + 1) (.string (q.tx k)) = (q.upT (k + 1)).cells := by
  match k, hk with
  | 0, _ => rfl
  | 1, _ => rfl
  | 2, _ => rfl
  | 3, _ => rfl
theorem Ak.upM_set (q : Ak) (k : Nat) (hk : k < 2) : (q.upM k).cells.setIfInBounds (k + 5) (.int .i64 (q.nu k)) = (q.upM (k + 1)).cells := by
  match k, hk with
  | 0, _ => rfl
  | 1, _ => rfl

/-- the reader, the question's box, the result's box -/
def RK (w : World) (g : Nat) (W : World) (q : Ak) (st : St) : Prop :=
  RS W (w.heap.size + 1) st ∧ Below w.heap.size w W ∧ Box W w.heap.size 24 (Ak.mk 0 ⟨#[]⟩ ⟨#[]⟩ ⟨#[]⟩ ⟨#[]⟩ 0 0).cells ∧ Box W g 24 q.cells ∧ w.heap.size + 1 < g
theorem RK.reader {w W W' : World} {g : Nat} {q : Ak} {st st' : St} (h : RK w g W q st) (hg : GS W (w.heap.size + 1) st' W') : RK w g W' q st' := by
  obtain ⟨h1, h2, h3, h4, h5⟩ := h
  exact ⟨hg.1, h2.trans (hg.frame h2.size (by omega)), (hg.other h3.lt (by omega)).trans h3, (hg.other h4.lt (by omega)).trans h4, h5⟩
theorem RK.below {w W W' : World} {g : Nat} {q : Ak} {st : St} (h : RK w g W q st) (hb : Below W.heap.size W W') : RK w g W' q st := by
  obtain ⟨h1, h2, h3, h4, h5⟩ := h
  exact ⟨h1.keep (hb.block _ h1.lt), h2.trans (hb.mono h2.size), (hb.block _ h3.lt).trans h3, (hb.block _ h4.lt).trans h4, h5⟩
theorem RK.set {w W : World} {g : Nat} {q q' : Ak} {st : St} (h : RK w g W q st) (i : Nat) (u : Value) (e : q.cells.setIfInBounds i u = q'.cells) : RK w g (W.setCell ⟨g, i, none⟩ u) q' st := by
  obtain ⟨h1, h2, h3, h4, h5⟩ := h
  refine ⟨h1.keep (Below.heap_setCell W ⟨g, i, none⟩ u _ (by show w.heap.size + 1 ≠ g; omega)), h2.setCell (by show w.heap.size ≤ g; omega) _, Box.setFar h3 (by show w.heap.size ≠ g; omega) _, ?_, h5⟩
  rw [← e]
  exact Box.setSame h4 i u

/-- the result's box filled -/
theorem RK.fill {w W : World} {g : Nat} {q : Ak} {st : St} (h : RK w g W q st) (c : Ak) :
    (w.heap.size < W.heap.size ∧ (∃ u, W.cell? ⟨w.heap.size, 0, none⟩ = some u) ∧ (∀ i, W.frozen? ⟨w.heap.size, i, none⟩ = false)) ∧ Box (((((((W.setCell ⟨w.heap.size, 0, none⟩ (.int .i64 c.op)).setCell ⟨w.heap.size, 1, none⟩ (.string c.a)).setCell ⟨w.heap.size, 2, none⟩ (.string c.b)).setCell ⟨w.heap.size, 3, none⟩ (.string c.c)).setCell ⟨w.heap.size, 4, none⟩ (.string c.d)).setCell ⟨w.heap.size, 5, none⟩ (.int .i64 c.n)).setCell ⟨w.heap.size, 6, none⟩ (.int .i64 c.m)) w.heap.size 24 c.cells ∧ Below w.heap.size w (((((((W.setCell ⟨w.heap.size, 0, none⟩ (.int .i64 c.op)).setCell ⟨w.heap.size, 1, none⟩ (.string c.a)).setCell ⟨w.heap.size, 2, none⟩ (.string c.b)).setCell ⟨w.heap.size, 3, none⟩ (.string c.c)).setCell ⟨w.heap.size, 4, none⟩ (.string c.d)).setCell ⟨w.heap.size, 5, none⟩ (.int .i64 c.n)).setCell ⟨w.heap.size, 6, none⟩ (.int .i64 c.m)) := by
  obtain ⟨h1, h2, h3, h4, h5⟩ := h
  refine ⟨⟨h3.lt, ⟨_, h3.cell 0⟩, fun i => Box.free h3 i⟩, ?_, ?_⟩
  · have := Box.setSame (Box.setSame (Box.setSame (Box.setSame (Box.setSame (Box.setSame (Box.setSame h3 0 (.int .i64 c.op)) 1 (.string c.a)) 2 (.string c.b)) 3 (.string c.c)) 4 (.string c.d)) 5 (.int .i64 c.n)) 6 (.int .i64 c.m)
    exact this
  · exact ((((((h2.setCell (Nat.le_refl _) _).setCell (Nat.le_refl _) _).setCell (Nat.le_refl _) _).setCell (Nat.le_refl _) _).setCell (Nat.le_refl _) _).setCell (Nat.le_refl _) _).setCell (Nat.le_refl _) _

/-- what ReadAsk answers -/
def ReadP (q : Option Ak) (w : World) (e : Ending) (w' : World) : Prop :=
  Below w.heap.size w w' ∧ e = .returned (.tuple (match q with | none => #[.agg (Ak.mk 0 ⟨#[]⟩ ⟨#[]⟩ ⟨#[]⟩ ⟨#[]⟩ 0 0).cells, .int .i64 2] | some q => #[.agg q.cells, .int .i64 0]))

set_option maxHeartbeats 8000000 in
set_option maxRecDepth 100000 in
theorem wread_any (s : ByteArray) (hs : s.size ≤ 20000) (w : World) :
    Calls Try.prog 13 #[.string s] w (ReadP (readA s.data.toList) w) := by
  have hlen : stLen (some s.data.toList) := fun l e => by
    have : s.data.toList.length = s.size := by rw [Array.length_toList]; rfl
    injection e with e
    rw [← e]
    omega
  obtain ⟨rq, hrq⟩ : ∃ rq, rq = readA s.data.toList := ⟨_, rfl⟩
  rw [← hrq]
  obtain ⟨st, hst⟩ : ∃ st, st = (some s.data.toList : St) := ⟨_, rfl⟩
  have HRQ : Hid (rq = if endS (nS st 2) = 0 ∧ (akOf st).right = true then some (akOf st) else none) := Lib.hid (by rw [hrq, hst]; unfold readA; congr)
  obtain ⟨W0, hW0⟩ : ∃ W0, W0 = (w.alloc (.cells (Ak.mk 0 ⟨#[]⟩ ⟨#[]⟩ ⟨#[]⟩ ⟨#[]⟩ 0 0).cells 24)) := ⟨_, rfl⟩
  have hz0 : W0.heap.size = w.heap.size + 1 := by rw [hW0]; simp
  have hb0 : Below w.heap.size w W0 := by rw [hW0]; exact (Below.refl _ w).alloc (Nat.le_refl _) _
  have hB0 : Box W0 w.heap.size 24 (Ak.mk 0 ⟨#[]⟩ ⟨#[]⟩ ⟨#[]⟩ ⟨#[]⟩ 0 0).cells := by rw [hW0]; exact Box.new w _ _
  have HRead : Hid (Calls Try.prog 22 #[.string s] W0 fun e w1 => e = .returned (.pointer (some ⟨w.heap.size + 1, 0, none⟩)) ∧ Hid (RS w1 (w.heap.size + 1) st ∧ Below w.heap.size w w1 ∧ Box w1 w.heap.size 24 (Ak.mk 0 ⟨#[]⟩ ⟨#[]⟩ ⟨#[]⟩ ⟨#[]⟩ 0 0).cells)) := Lib.hid ((read_any s W0).mono (by
    rintro e w1 ⟨rfl, hr, hb⟩
    rw [hz0] at hr hb
    refine ⟨by rw [hz0], Lib.hid ⟨?_, hb0.trans (hb.mono (by omega)), (hb.block _ (by omega)).trans hB0⟩⟩
    rw [hst]
    show Rd w1 (w.heap.size + 1) ⟨s.data.toList.toArray⟩ false
    simpa using hr))
  obtain ⟨q, hq⟩ : ∃ q, q = akOf st := ⟨_, rfl⟩
  rw [← hq] at HRQ
  have HNum : Hid (∀ w1, (RS w1 (w.heap.size + 1) st ∧ Below w.heap.size w w1 ∧ Box w1 w.heap.size 24 (Ak.mk 0 ⟨#[]⟩ ⟨#[]⟩ ⟨#[]⟩ ⟨#[]⟩ 0 0).cells) → Calls Try.prog 23 #[.pointer (some ⟨w.heap.size + 1, 0, none⟩), .int .i64 19] w1 fun e w2 => e = .returned (.int .i64 q.op) ∧ Hid (RK w w2.heap.size (w2.alloc (.cells (q.upT 0).cells 24)) (q.upT 0) (tS st 0))) := Lib.hid fun w1 ⟨h1, h2, h3⟩ => by
    refine (num_s (w.heap.size + 1) _ 19 19 rfl (by omega) w1 h1).mono ?_
    rintro e w2 ⟨rfl, hg⟩
    have hb : Below w.heap.size w w2 := h2.trans (hg.frame h2.size (by omega))
    refine ⟨by rw [hq]; rfl, Lib.hid ⟨?_, hb.alloc hb.size _, ?_, Box.new w2 _ _, ?_⟩⟩
    · exact (show RS w2 (w.heap.size + 1) (tS st 0) from hg.1).keep (Below.heap_alloc _ _ _ hg.1.lt)
    · exact Box.alloc ((hg.other h3.lt (by omega)).trans h3) _
    · exact hg.1.lt
  have HT : Hid (∀ g k, k < 4 → ∀ wr, RK w g wr (q.upT k) (tS st k) → Calls Try.prog 24 #[.pointer (some ⟨w.heap.size + 1, 0, none⟩), .int .i64 4096] wr fun e w2 => e = .returned (.string (q.tx k)) ∧ (∃ u, w2.cell? ⟨g, k + 1, none⟩ = some u) ∧ w2.frozen? ⟨g, k + 1, none⟩ = false ∧ Hid (RK w g (w2.setCell ⟨g, k + 1, none⟩ (.string (q.tx k))) (q.upT (k + 1)) (tS st (k + 1)))) := Lib.hid fun g k hk wr h => by
    refine (text_s (w.heap.size + 1) _ (tS_len (by rw [hst]; exact hlen) k) 4096 4096 rfl (by omega) wr h.1).mono ?_
    rintro e w2 ⟨rfl, hg⟩
    have h2 := h.reader hg
    refine ⟨by rw [hq, akOf_tx st k hk]; rfl, ?_, Box.free h2.2.2.2.1 _, Lib.hid (h2.set (k + 1) _ (Ak.upT_set q k hk))⟩
    rw [h2.2.2.2.1.cell (k + 1)]
    exact ⟨_, Array.getElem?_eq_getElem (by show k + 1 < 7; omega)⟩
  have HNU : Hid (∀ g k, k < 2 → ∀ wr, RK w g wr (q.upM k) (nS st k) → Calls Try.prog 23 #[.pointer (some ⟨w.heap.size + 1, 0, none⟩), .int .i64 1099511627776] wr fun e w2 => e = .returned (.int .i64 (q.nu k)) ∧ (∃ u, w2.cell? ⟨g, k + 5, none⟩ = some u) ∧ w2.frozen? ⟨g, k + 5, none⟩ = false ∧ Hid (RK w g (w2.setCell ⟨g, k + 5, none⟩ (.int .i64 (q.nu k))) (q.upM (k + 1)) (nS st (k + 1)))) := Lib.hid fun g k hk wr h => by
    refine (num_s (w.heap.size + 1) _ 1099511627776 1099511627776 rfl (by omega) wr h.1).mono ?_
    rintro e w2 ⟨rfl, hg⟩
    have h2 := h.reader hg
    refine ⟨by rw [hq, akOf_nu st k hk]; rfl, ?_, Box.free h2.2.2.2.1 _, Lib.hid (h2.set (k + 5) _ (Ak.upM_set q k hk))⟩
    rw [h2.2.2.2.1.cell (k + 5)]
    exact ⟨_, Array.getElem?_eq_getElem (by show k + 5 < 7; omega)⟩
  have hlong : ¬ ((20000 : Int) < (s.size : Int)) := by omega
  clear hs hlen hst hrq hz0 hb0 hB0 hq
  go_enter Try.func13, Try.ntmps13
  go_wp2_with fail
  rw [← hW0]
  clear hW0
  refine HRead.out.mono ?_
  rintro e w1 ⟨rfl, H1⟩
  clear HRead hlong
  go_wp2_with fail
  refine (HNum.out w1 H1.out).mono ?_
  rintro e w2 ⟨rfl, H2⟩
  clear HNum H1
  obtain ⟨g, hg⟩ : ∃ g, g = w2.heap.size := ⟨_, rfl⟩
  rw [← hg] at H2
  have HG := Lib.hid hg
  go_wp2_with fail
  refine (wtexts_any _ _).mono ?_
  rintro e w3 ⟨rfl, hb3⟩
  rw [← hg]
  have H3 : Hid (RK w g w3 (q.upT 0) (tS st 0)) := Lib.hid (H2.out.below hb3)
  clear hb3 H2 hg HG
  go_wp2_with fail
  go_loopw [20] (fun i wr => ∃ k : Nat, k ≤ 4 ∧ i = .int .i64 (k : Int) ∧ Hid (RK w g wr (q.upT k) (tS st k))) (fun i _ => 4 - (intOf i).toNat)
  case atStart => exact ⟨0, Nat.zero_le _, rfl, H3⟩
  case round =>
    obtain ⟨k, hk, rfl, hst⟩ := hrel
    clear H3
    by_cases hlt : k < 4
    · obtain ⟨z0, z1, z2, z3⟩ := idx4 (.pointer (some ⟨g, 1, none⟩)) (.pointer (some ⟨g, 2, none⟩)) (.pointer (some ⟨g, 3, none⟩)) (.pointer (some ⟨g, 4, none⟩))
      have HC := Lib.hid (HT.out g k hlt wr hst.out)
      clear hst HT HNU HRQ
      obtain rfl | rfl | rfl | rfl : k = 0 ∨ k = 1 ∨ k = 2 ∨ k = 3 := by omega
      all_goals
        go_wp2_with fail
        refine HC.out.mono ?_
        rintro e w4 ⟨rfl, ⟨u, hu⟩, hf, HS⟩
        clear HC
        go_wp2_with fail
        go_roundw
        case rel => exact ⟨_, by omega, by go_num, HS⟩
        case measure => simp [intOf]
    · obtain rfl : k = 4 := by omega
      have H4 : Hid (RK w g wr (q.upM 0) (nS st 0)) := Lib.hid hst.out
      clear hst HT
      go_wp2_with fail
      refine (wnumbers_any _ _).mono ?_
      rintro e w5 ⟨rfl, hb5⟩
      have H5 : Hid (RK w g w5 (q.upM 0) (nS st 0)) := Lib.hid (H4.out.below hb5)
      clear hb5 H4
      go_wp2_with fail
      go_loopw [29] (fun i wr => ∃ k : Nat, k ≤ 2 ∧ i = .int .i64 (k : Int) ∧ Hid (RK w g wr (q.upM k) (nS st k))) (fun i _ => 2 - (intOf i).toNat)
      case atStart => exact ⟨0, Nat.zero_le _, rfl, H5⟩
      case round =>
        obtain ⟨k, hk, rfl, hst⟩ := hrel
        clear H5
        by_cases hlt : k < 2
        · obtain ⟨z0, z1⟩ := idx2 (.pointer (some ⟨g, 5, none⟩)) (.pointer (some ⟨g, 6, none⟩))
          have HC := Lib.hid (HNU.out g k hlt wr hst.out)
          clear hst HNU HRQ
          obtain rfl | rfl : k = 0 ∨ k = 1 := by omega
          all_goals
            go_wp2_with fail
            refine HC.out.mono ?_
            rintro e w4 ⟨rfl, ⟨u, hu⟩, hf, HS⟩
            clear HC
            go_wp2_with fail
            go_roundw
            case rel => exact ⟨_, by omega, by go_num, HS⟩
            case measure => simp [intOf]
        · obtain rfl : k = 2 := by omega
          have HS : Hid (RK w g wr q (nS st 2)) := Lib.hid hst.out
          clear hst HNU
          obtain ⟨se, hse⟩ : ∃ se, se = nS st 2 := ⟨_, rfl⟩
          rw [← hse] at HS HRQ
          have HE := Lib.hid (end_s (w.heap.size + 1) se wr HS.out.1)
          have HR := Lib.hid (wright_any q wr)
          obtain ⟨y0, y1, y2, y3, y4, y5, y6⟩ := HS.out.2.2.2.1.seven
          clear hse
          go_wp2_with fail
          refine HE.out.mono ?_
          rintro e w9 ⟨rfl, rfl⟩
          by_cases he : endS se = 0
          · have hne : (endS se != 0) = false := by rw [he]; rfl
            cases hrc : q.right with
            | true =>
              rw [hrc] at HR
              have hq := HRQ.out
              rw [if_pos ⟨he, hrc⟩] at hq
              have HQ := Lib.hid hq
              clear hq hrc he HE HRQ
              go_wp2_with fail
              refine HR.out.mono ?_
              rintro e w10 ⟨rfl, hb10⟩
              have HK : Hid (RK w g w10 q se) := Lib.hid (HS.out.below hb10)
              clear hb10 HS HR y0 y1 y2 y3 y4 y5 y6
              obtain ⟨⟨zl, ⟨z0, hz0⟩, zf⟩, hbx, hbl⟩ := HK.out.fill q
              obtain ⟨f0, f1, f2, f3, f4, f5, f6⟩ := (⟨zf 0, zf 1, zf 2, zf 3, zf 4, zf 5, zf 6⟩ : _ ∧ _ ∧ _ ∧ _ ∧ _ ∧ _ ∧ _)
              obtain ⟨m0, m1, m2, m3, m4, m5, m6⟩ := hbx.seven
              obtain ⟨y0, y1, y2, y3, y4, y5, y6⟩ := HK.out.2.2.2.1.seven
              obtain ⟨x0, x1, x2, x3, x4, x5, x6⟩ := HK.out.2.2.1.seven
              have HBL := Lib.hid hbl
              clear hbx hbl zf HK
              go_wp2
              exact bodyPost_ret (v := .tuple #[.agg q.cells, .int .i64 0]) (by simp [results, Try.results13, go_sem, m0, m1, m2, m3, m4, m5, m6]) rfl ⟨HBL.out, by rw [HQ.out]⟩
            | false =>
              rw [hrc] at HR
              have hq := HRQ.out
              rw [if_neg (fun h => by rw [hrc] at h; cases h.2)] at hq
              have HQ := Lib.hid hq
              clear hq hrc he HE HRQ
              go_wp2_with fail
              refine HR.out.mono ?_
              rintro e w10 ⟨rfl, hb10⟩
              have HK : Hid (RK w g w10 q se) := Lib.hid (HS.out.below hb10)
              clear hb10 HS HR y0 y1 y2 y3 y4 y5 y6
              obtain ⟨⟨zl, ⟨z0, hz0⟩, zf⟩, hbx, hbl⟩ := HK.out.fill ⟨0, ⟨#[]⟩, ⟨#[]⟩, ⟨#[]⟩, ⟨#[]⟩, 0, 0⟩
              obtain ⟨f0, f1, f2, f3, f4, f5, f6⟩ := (⟨zf 0, zf 1, zf 2, zf 3, zf 4, zf 5, zf 6⟩ : _ ∧ _ ∧ _ ∧ _ ∧ _ ∧ _ ∧ _)
              obtain ⟨m0, m1, m2, m3, m4, m5, m6⟩ := hbx.seven
              obtain ⟨x0, x1, x2, x3, x4, x5, x6⟩ := HK.out.2.2.1.seven
              have HBL := Lib.hid hbl
              clear hbx hbl zf HK
              go_wp2
              exact bodyPost_ret (v := .tuple #[.agg (Ak.mk 0 ⟨#[]⟩ ⟨#[]⟩ ⟨#[]⟩ ⟨#[]⟩ 0 0).cells, .int .i64 2]) (by simp [results, Try.results13, go_sem, m0, m1, m2, m3, m4, m5, m6]) rfl ⟨HBL.out, by rw [HQ.out]⟩
          · have hne : (endS se != 0) = true := by simpa using he
            have hq := HRQ.out
            rw [if_neg (fun h => he h.1)] at hq
            have HQ := Lib.hid hq
            have HK : Hid (RK w g wr q se) := HS
            clear hq he HE HRQ HS HR y0 y1 y2 y3 y4 y5 y6
            obtain ⟨⟨zl, ⟨z0, hz0⟩, zf⟩, hbx, hbl⟩ := HK.out.fill ⟨0, ⟨#[]⟩, ⟨#[]⟩, ⟨#[]⟩, ⟨#[]⟩, 0, 0⟩
            obtain ⟨f0, f1, f2, f3, f4, f5, f6⟩ := (⟨zf 0, zf 1, zf 2, zf 3, zf 4, zf 5, zf 6⟩ : _ ∧ _ ∧ _ ∧ _ ∧ _ ∧ _ ∧ _)
            obtain ⟨m0, m1, m2, m3, m4, m5, m6⟩ := hbx.seven
            obtain ⟨x0, x1, x2, x3, x4, x5, x6⟩ := HK.out.2.2.1.seven
            have HBL := Lib.hid hbl
            clear hbx hbl zf HK
            go_wp2
            exact bodyPost_ret (v := .tuple #[.agg (Ak.mk 0 ⟨#[]⟩ ⟨#[]⟩ ⟨#[]⟩ ⟨#[]⟩ 0 0).cells, .int .i64 2]) (by simp [results, Try.results13, go_sem, m0, m1, m2, m3, m4, m5, m6]) rfl ⟨HBL.out, by rw [HQ.out]⟩

end Go.Proofs.Ytcncoppnkodhmab
