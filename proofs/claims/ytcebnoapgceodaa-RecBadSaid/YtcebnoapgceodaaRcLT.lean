/-
  Bytes that the call owns, and what else lies in memory meanwhile: of no package of the program.
  rec: which commits have bytes: the contract (at a seat of the store).
  rec: a commit as bytes: the contracts.
  rec: a commit as bytes: layCommit, Commit, the laws' head.
  rec: the law's Same.
  mailbaglaw11.head.
  rec, plainly: the state of the store of a state is that state; which states have a store.
  store: fits and Commit where a commit's writes may be of any number.
  rec: the store of a state: the contract.
  rec: commits, and a state, among a law's arguments.
-/
import Derived.Test.YtcebnoapgceodaaRound
import Derived.Test.YtcebnoapgceodaaOwn
import Derived.Lib.Hide
import Derived.Deep.RegionWith
import Derived.Deep.Strs
import Derived.Lib.SmallJoins
import Derived.IntWalk
import Derived.Test.YtcebnoapgceodaaStRight
import Derived.Deep.RegionHeld
import Derived.Laws.Cover3
import Derived.StillTailTactics
import Derived.Test.YtcebnoapgceodaaSC
import Derived.Test.YtcebnoapgceodaaStRl
import Derived.Test.YtcebnoapgceodaaSB
import Derived.Test.YtcebnoapgceodaaStLs
section
namespace Go.Proofs.Ytcebnoapgceodaa
open Go.RowKit

set_option linter.unusedVariables false

namespace bsK
theorem conv_bs {P : Program} (E B : Nat) (w : World) (src dst : TypeId) (hs : P.underlying src = some (.slice E)) (he : P.underlying E = some (.int .u8)) (hd : P.underlying dst = some .string) (v : Value) (l : List UInt8) (hown : Bs E B w v l) :
    (convert src dst v).run P w = .ok (.string ⟨l.toArray⟩) w := by
  rcases hown.2 with ⟨rfl, h0⟩ | ⟨g, cap, cur, rfl, _⟩
  · have : l = [] := List.eq_nil_of_length_eq_zero h0
    subst this
    exact run_convert_bytes_nil (P := P) w src E hs he 0 0 dst hd
  · exact run_convert_bytes_back (P := P) w src dst E _ cap l hs he hd fun j hj => World.ownsRow.cells hown (g := g) rfl j _ (by simp [Lib.byteCells, hj])

end bsK

theorem Bs.size {E B : Nat} {w : World} {v : Value} {l : List UInt8} (h : Bs E B w v l) : ∀ q, v.ownBlock = some q → B ≤ q ∧ q < w.heap.size := World.ownsRow.lt h
theorem Bs.grow {E B : Nat} {w w' : World} {v : Value} {l : List UInt8} (h : Bs E B w v l) (hg : w.grownBy w' none) : Bs E B w' v l := World.ownsRow.kept h hg (by by_cases hv : v.ownBlock = none; exact .inl hv; exact .inr hv)

/-- a cell of a block that is not the row's -/
theorem Up.cell {w w' : World} {v v' : Value} (h : Up w v w' v') {c : Nat} (hc : c < w.heap.size) (hv : v.ownBlock ≠ some c) (i : Nat) : w'.cell? ⟨c, i, none⟩ = w.cell? ⟨c, i, none⟩ :=
  World.cell?_of_block (a := ⟨c, i, none⟩) (h.1.block c hc fun e => hv e.symm)
theorem Up.ne {w w' : World} {v v' : Value} (h : Up w v w' v') {c : Nat} (hc : c < w.heap.size) (hv : v.ownBlock ≠ some c) : v'.ownBlock ≠ some c := fun e => by
  rcases h.2 with k | k
  · exact hv (by rw [← k]; exact e)
  · have := k c e
    omega

/-- what the row is not is as it was -/
def BsK (w : World) (v : Value) (w' : World) (v' : Value) : Prop := w.heap.size ≤ w'.heap.size ∧ ∀ c, c < w.heap.size → v.ownBlock ≠ some c → w'.heap[c]? = w.heap[c]? ∧ v'.ownBlock ≠ some c
theorem Up.keep {w w' : World} {v v' : Value} (h : Up w v w' v') : BsK w v w' v' := ⟨h.1.size, fun c hc hv => ⟨h.1.block c hc (fun e => hv e.symm), h.ne hc hv⟩⟩
theorem BsK.refl (w : World) (v : Value) : BsK w v w v := ⟨Nat.le_refl _, fun _ _ h => ⟨rfl, h⟩⟩
theorem BsK.trans {w w1 w2 : World} {v v1 v2 : Value} (h : BsK w v w1 v1) (k : BsK w1 v1 w2 v2) : BsK w v w2 v2 := ⟨Nat.le_trans h.1 k.1, fun c hc hv => by
  obtain ⟨a, b⟩ := h.2 c hc hv
  obtain ⟨a2, b2⟩ := k.2 c (Nat.lt_of_lt_of_le hc h.1) b
  exact ⟨a2.trans a, b2⟩⟩
theorem BsK.alloc (w : World) (v : Value) (o : Obj) : BsK w v (w.alloc o) v := ⟨by simp, fun c hc hv => ⟨Below.heap_alloc w o c hc, hv⟩⟩

/-- bytes that are owned above what there was -/
def BsA (w0 w : World) (v : Value) (l : List UInt8) : Prop := Bs 5 w0.heap.size w v l ∧ Below w0.heap.size w0 w

end Go.Proofs.Ytcebnoapgceodaa
end

section
section
namespace Go.Proofs.Ytcebnoapgceodaa
open Go.RowKit

set_option linter.unusedVariables false

def rightCm (s t : Int) (ws : List Wr) : Bool := decide (1 ≤ s) && decide (s ≤ 1099511627776) && decide (0 ≤ t) && decide (t ≤ 1099511627776) && rightL ws

set_option maxHeartbeats 2000000 in
theorem recRight_any {w : World} {a : Option Addr} {len cap : Nat} {ws : List Wr} (h : WrsIs w a ws) (hl : ws.length = len) (hle : len ≤ 1000000) (s t : Int) :
    Calls Try.prog 67 #[.agg #[.int .i64 s, .int .i64 t, .slice a len cap]] w fun e w' => e = .returned (.bool (rightCm s t ws)) ∧ Below w.heap.size w w' := by
  have HW := Lib.hid h
  have HA : Hid (∀ W, Below w.heap.size w W → Calls Try.prog 112 #[.slice a len cap] W fun e w' => e = .returned (.bool (rightL ws)) ∧ Below W.heap.size W w') := Lib.hid fun W hb => right_any (HW.out.below hb) hl hle
  have hb0 := (Below.refl _ w).alloc (Nat.le_refl _) (.cells #[.int .i64 s, .int .i64 t, .slice a len cap] 45)
  have HC := Lib.hid (HA.out _ hb0)
  have HB0 := Lib.hid hb0
  have HR : Hid (rightCm s t ws = (decide (1 ≤ s) && decide (s ≤ 1099511627776) && decide (0 ≤ t) && decide (t ≤ 1099511627776) && rightL ws)) := Lib.hid rfl
  obtain ⟨r, hr⟩ : ∃ r, r = rightL ws := ⟨_, rfl⟩
  rw [← hr] at HC HR
  clear h hl hr HA HW hb0
  by_cases h1 : 1 ≤ s
  · by_cases h2 : s ≤ 1099511627776
    · by_cases h3 : 0 ≤ t
      · by_cases h4 : t ≤ 1099511627776
        · go_enter Try.func67, Try.ntmps67
          go_wp2_with fail
          refine HC.out.mono ?_
          rintro e w1 ⟨rfl, hb⟩
          have HB := Lib.hid (HB0.out.trans (hb.mono HB0.out.size))
          clear hb HC HB0
          go_wp2
          all_goals
            go_ret
            exact ⟨by rw [HR.out]; simp [h1, h2, h3, h4], HB.out⟩
        · go_enter Try.func67, Try.ntmps67
          go_wp2
          all_goals
            go_ret
            exact ⟨by rw [HR.out]; simp; intro _ _ _ _; exfalso; omega, HB0.out⟩
      · go_enter Try.func67, Try.ntmps67
        go_wp2
        all_goals
          go_ret
          exact ⟨by rw [HR.out]; simp; intro _ _ _ _; exfalso; omega, HB0.out⟩
    · go_enter Try.func67, Try.ntmps67
      go_wp2
      all_goals
        go_ret
        exact ⟨by rw [HR.out]; simp; intro _ _ _ _; exfalso; omega, HB0.out⟩
  · go_enter Try.func67, Try.ntmps67
    go_wp2
    all_goals
      go_ret
      exact ⟨by rw [HR.out]; simp; intro _ _ _ _; exfalso; omega, HB0.out⟩

end Go.Proofs.Ytcebnoapgceodaa
end

section
namespace Go.Proofs.Ytcebnoapgceodaa
open Go.RowKit bsK

set_option linter.unusedVariables false

def octW (x : Wr) : List UInt8 := octT x.key ++ (octF x.gone ++ octT x.val)
def octWs (ws : List Wr) : List UInt8 := octN ws.length ++ ws.flatMap octW
def octC (s t : Nat) (ws : List Wr) : List UInt8 := octN s ++ (octN t ++ octWs ws)

theorem octT_len (s : ByteArray) (h : s.size ≤ 5000) : (octT s).length ≤ 5009 := by
  unfold octT
  have := octN_lt s.size (by omega)
  rw [List.length_append]
  have h2 : s.data.toList.length = s.size := Array.length_toList
  omega
theorem octW_len (x : Wr) (h : x.key.size ≤ 5000 ∧ x.val.size ≤ 5000) : (octW x).length ≤ 10100 := by
  unfold octW
  have h1 := octT_len x.key h.1
  have h2 := octT_len x.val h.2
  rw [List.length_append, List.length_append]
  have : (octF x.gone).length = 1 := rfl
  omega
theorem flat_len : ∀ (ws : List Wr), (∀ x ∈ ws, x.key.size ≤ 5000 ∧ x.val.size ≤ 5000) → (ws.flatMap octW).length ≤ 10100 * ws.length
  | [], _ => by simp
  | x :: r, h => by
    have h1 := octW_len x (h x List.mem_cons_self)
    have h2 := flat_len r fun y hy => h y (List.mem_cons_of_mem _ hy)
    rw [List.flatMap_cons, List.length_append, List.length_cons]
    omega
theorem flat_take (ws : List Wr) (k : Nat) (h : k < ws.length) : (ws.take (k + 1)).flatMap octW = (ws.take k).flatMap octW ++ octW ws[k] := by
  rw [List.take_succ_eq_append_getElem h, List.flatMap_append]
  simp

set_option maxHeartbeats 2000000 in
set_option maxRecDepth 100000 in
theorem layWrites_any {w0 w : World} {a : Option Addr} {len cap : Nat} {ws : List Wr} (h : WrsIs w0 a ws) (hl : ws.length = len) (hle : len ≤ 1000000) (hsz : ∀ x ∈ ws, x.key.size ≤ 5000 ∧ x.val.size ≤ 5000)
    (v : Value) (l : List UInt8) (hll : l.length ≤ 100000000000) (hown : BsA w0 w v l) :
    Calls Try.prog 60 #[v, .slice a len cap] w fun e w' => ∃ v', e = .returned v' ∧ BsA w0 w' v' (l ++ octWs ws) ∧ BsK w v w' v' := by
  have h9 := octN_lt len (by omega)
  have hnum := num_nat w0.heap.size v l len (by omega) w (by omega) hown.2.size hown.1
  have HW := Lib.hid h
  have HL := Lib.hid hl
  have HSZ := Lib.hid hsz
  have HU := Lib.hid hown.2
  have HOW := Lib.hid hown
  -- a world of a round
  obtain ⟨L0, hL0⟩ : ∃ L0, L0 = l ++ octN len := ⟨_, rfl⟩
  have HRD : Hid (∀ k, k < len → ∀ (hk : k < ws.length) (wr : World) (x : Value), BsA w0 wr x (L0 ++ (ws.take k).flatMap octW) → ∃ b off, a = some ⟨b, off, none⟩ ∧ WrIn wr b (off + k * 3) ws[k] ∧
      Calls Try.prog 95 #[x, .string ws[k].key] (wr.alloc (.cells (#[.string ws[k].key, .string ws[k].val, .bool ws[k].gone]) 48)) fun e w1 => ∃ v1, e = .returned v1 ∧ w1.cell? ⟨wr.heap.size, 2, none⟩ = some (.bool ws[k].gone) ∧
        Hid (Calls Try.prog 108 #[v1, .bool ws[k].gone] w1 fun e w2 => ∃ v2, e = .returned v2 ∧ w2.cell? ⟨wr.heap.size, 1, none⟩ = some (.string ws[k].val) ∧
          Hid (Calls Try.prog 95 #[v2, .string ws[k].val] w2 fun e w3 => ∃ v3, e = .returned v3 ∧ Hid (BsA w0 w3 v3 (L0 ++ (ws.take (k + 1)).flatMap octW) ∧ BsK wr x w3 v3)))) := Lib.hid fun k hkl hk wr x hx => by
    obtain ⟨b, off, e, hb, hin, _⟩ := HW.out.at_ k hk
    have hin2 : WrIn wr b (off + k * 3) ws[k] := by
      obtain ⟨h0, h1, h2⟩ := hin
      exact ⟨(hx.2.cell (p := ⟨b, _, none⟩) hb).trans h0, (hx.2.cell (p := ⟨b, _, none⟩) hb).trans h1, (hx.2.cell (p := ⟨b, _, none⟩) hb).trans h2⟩
    obtain ⟨y, hy⟩ : ∃ y, y = ws[k] := ⟨_, rfl⟩
    have hys := HSZ.out y (by rw [hy]; exact List.getElem_mem hk)
    have hnx := flat_take ws k hk
    rw [← hy] at hin2 hnx ⊢
    have hfl := flat_len (ws.take k) fun z hz => HSZ.out z (List.mem_of_mem_take hz)
    have hfl2 : (ws.take k).length ≤ len := by rw [List.length_take]; omega
    have hLn : L0.length ≤ 100000000100 := by rw [hL0, List.length_append]; omega
    obtain ⟨M, hM⟩ : ∃ M, M = L0 ++ (ws.take k).flatMap octW := ⟨_, rfl⟩
    have hMl : M.length ≤ 100000000100 + 10100 * 1000000 := by rw [hM, List.length_append]; have : 10100 * (ws.take k).length ≤ 10100 * 1000000 := Nat.mul_le_mul_left _ (by omega); omega
    rw [← hM] at hx
    have hal : Bs 5 w0.heap.size (wr.alloc (.cells (#[.string y.key, .string y.val, .bool y.gone]) 48)) x M := hx.1.grow (World.grownBy_alloc wr _ none)
    have hbl : Below w0.heap.size w0 (wr.alloc (.cells (#[.string y.key, .string y.val, .bool y.gone]) 48)) := hx.2.alloc hx.2.size _
    have hbx : ∀ i, (wr.alloc (.cells (#[.string y.key, .string y.val, .bool y.gone]) 48)).cell? ⟨wr.heap.size, i, none⟩ = (#[.string y.key, .string y.val, .bool y.gone] : Array Value)[i]? := fun i => cell_of_row _ _ i _ _ (0, 0) (heap_alloc_new wr _)
    have hne : x.ownBlock ≠ some wr.heap.size := fun e => by have := (hx.1.size _ e).2; omega
    have hcl : wr.heap.size < (wr.alloc (.cells (#[.string y.key, .string y.val, .bool y.gone]) 48)).heap.size := by simp
    have hk5 := octT_len y.key hys.1
    refine ⟨b, off, e, hin2, (text_any w0.heap.size x M y.key _ (by omega) hbl.size hal).mono ?_⟩
    rintro e1 w1 ⟨v1, rfl, hown1, hup1⟩
    have hb1 : Below w0.heap.size w0 w1 := hbl.trans (hup1.below hal hbl.size)
    have hz1 := hup1.1.size
    refine ⟨v1, rfl, (hup1.cell hcl hne 2).trans (hbx 2), Lib.hid ((flag_any w0.heap.size v1 _ y.gone w1 (by rw [List.length_append]; omega) hb1.size hown1).mono ?_)⟩
    rintro e2 w2 ⟨v2, rfl, hown2, hup2⟩
    have hb2 : Below w0.heap.size w0 w2 := hb1.trans (hup2.below hown1 hb1.size)
    have hne1 := hup1.ne hcl hne
    have hc1 := (hup2.cell (c := wr.heap.size) (by omega) hne1 1).trans ((hup1.cell hcl hne 1).trans (hbx 1))
    refine ⟨v2, rfl, hc1, Lib.hid ((text_any w0.heap.size v2 _ y.val w2 (by rw [List.length_append, List.length_append]; have : (octF y.gone).length = 1 := rfl; omega) hb2.size hown2).mono ?_)⟩
    rintro e3 w3 ⟨v3, rfl, hown3, hup3⟩
    refine ⟨v3, rfl, Lib.hid ⟨⟨?_, hb2.trans (hup3.below hown2 hb2.size)⟩, (((BsK.alloc wr x _).trans hup1.keep).trans hup2.keep).trans hup3.keep⟩⟩
    rw [hnx, ← List.append_assoc, ← hM]
    unfold octW
    rw [← List.append_assoc, ← List.append_assoc]
    exact hown3
  have HF : Hid (∀ wr x, BsA w0 wr x (L0 ++ (ws.take len).flatMap octW) ∧ BsK w v wr x → BsA w0 wr x (l ++ octWs ws) ∧ BsK w v wr x) := Lib.hid fun wr x ⟨hx, hkk⟩ => by
    refine ⟨?_, hkk⟩
    rw [List.take_of_length_le (by omega), hL0] at hx
    unfold octWs
    rw [hl, ← List.append_assoc]
    exact hx
  have HN : Hid (∀ e w1, NumPost w0.heap.size v l len w e w1 → ∃ v1, e = .returned v1 ∧ Hid (BsA w0 w1 v1 (L0 ++ (ws.take 0).flatMap octW) ∧ BsK w v w1 v1)) := Lib.hid fun e w1 h1 => by
    obtain ⟨v1, rfl, ho, hu⟩ := h1
    refine ⟨v1, rfl, Lib.hid ⟨⟨?_, HU.out.trans (hu.below HOW.out.1 HU.out.size)⟩, hu.keep⟩⟩
    rw [hL0]
    simpa using ho
  clear h hl hsz hown h9 hL0
  go_enter Try.func60, Try.ntmps60
  go_wp2_with fail
  refine hnum.mono ?_
  intro e w1 hp
  obtain ⟨v1, rfl, H1⟩ := HN.out e w1 hp
  clear hp HN hnum
  go_wp2_with fail
  go_loopw [0, 13] (fun x c wr => ∃ k : Nat, k ≤ len ∧ c = .int .i64 (k : Int) ∧ Hid (BsA w0 wr x (L0 ++ (ws.take k).flatMap octW) ∧ BsK w v wr x)) (fun _ c _ => len - (intOf c).toNat)
  case atStart => exact ⟨0, Nat.zero_le _, rfl, H1⟩
  case round =>
    obtain ⟨k, hk, rfl, hst⟩ := hrel
    clear H1
    by_cases hlt : k < len
    · have hk2 : k < ws.length := by rw [HL.out]; exact hlt
      obtain ⟨b, off, rfl, ⟨q0, q1, q2⟩, hc⟩ := HRD.out k hlt hk2 wr u0 hst.out.1
      have HKK := Lib.hid hst.out.2
      have HC := Lib.hid hc
      clear hc HRD hst HF
      go_wp2_with fail
      refine HC.out.mono ?_
      rintro e w2 ⟨v2, rfl, hc2, HC2⟩
      clear HC
      go_wp2_with fail
      refine HC2.out.mono ?_
      rintro e w3 ⟨v3, rfl, hc3, HC3⟩
      clear HC2 hc2
      go_wp2_with fail
      refine HC3.out.mono ?_
      rintro e w4 ⟨v4, rfl, HS⟩
      clear HC3 hc3
      go_wp2
      go_roundw
      case rel => exact ⟨k + 1, by omega, by simp, Lib.hid ⟨HS.out.1, HKK.out.trans HS.out.2⟩⟩
      case measure => simp [intOf]; omega
    · obtain rfl : k = len := by omega
      have HF2 := Lib.hid (HF.out wr u0 hst.out)
      go_wp2
      go_ret
      exact ⟨_, rfl, HF2.out⟩

end Go.Proofs.Ytcebnoapgceodaa
end

section
namespace Go.Proofs.Ytcebnoapgceodaa
open Go.RowKit bsK

set_option linter.unusedVariables false
set_option linter.unusedSimpArgs false

set_option maxHeartbeats 2000000 in
set_option maxRecDepth 100000 in
theorem layC_any {w0 w : World} {a : Option Addr} {len cap : Nat} {ws : List Wr} (h : WrsIs w0 a ws) (hl : ws.length = len) (hle : len ≤ 1000000) (hsz : ∀ x ∈ ws, x.key.size ≤ 5000 ∧ x.val.size ≤ 5000) (s t : Nat) (hs : s ≤ 1099511627776) (ht : t ≤ 1099511627776) (v : Value) (l : List UInt8) (hll : l.length ≤ 90000000000) (hown : BsA w0 w v l) :
    Calls Try.prog 62 #[v, .agg #[.int .i64 (s : Int), .int .i64 (t : Int), .slice a len cap]] w fun e w' => ∃ v', e = .returned v' ∧ BsA w0 w' v' (l ++ octC s t ws) ∧ BsK w v w' v' := by
  have hb := hown.2
  have hbw : Below w0.heap.size w0 (w.alloc (.cells #[.int .i64 (s : Int), .int .i64 (t : Int), .slice a len cap] 45)).drew := (hb.alloc hb.size _).drew
  have hbx : ∀ i, (w.alloc (.cells #[.int .i64 (s : Int), .int .i64 (t : Int), .slice a len cap] 45)).drew.cell? ⟨w.heap.size, i, none⟩ = (#[.int .i64 (s : Int), .int .i64 (t : Int), .slice a len cap] : Array Value)[i]? := fun i => cell_of_row _ _ i _ _ (0, 0) (heap_alloc_new w _)
  have hcl : w.heap.size < (w.alloc (.cells #[.int .i64 (s : Int), .int .i64 (t : Int), .slice a len cap] 45)).drew.heap.size := by show _ < (w.alloc _).heap.size; simp
  have hs9 := octN_lt s (by omega)
  have ht9 := octN_lt t (by omega)
  have HS0 : Hid ((w.alloc (.cells #[.int .i64 (s : Int), .int .i64 (t : Int), .slice a len cap] 45)).drew.cell? ⟨w.heap.size, 0, none⟩ = some (.int .i64 (s : Int)) ∧ (w.alloc (.cells #[.int .i64 (s : Int), .int .i64 (t : Int), .slice a len cap] 45)).drew.cell? ⟨w.heap.size, 1, none⟩ = some (.int .i64 (t : Int)) ∧ (w.alloc (.cells #[.int .i64 (s : Int), .int .i64 (t : Int), .slice a len cap] 45)).drew.cell? ⟨w.heap.size, 2, none⟩ = some (.slice a len cap)) := Lib.hid ⟨hbx 0, hbx 1, hbx 2⟩
  have HC : Hid (Calls Try.prog 61 #[v, .int .i64 (s : Int)] (w.alloc (.cells #[.int .i64 (s : Int), .int .i64 (t : Int), .slice a len cap] 45)).drew fun e w1 => ∃ v1, e = .returned v1 ∧ (w1.cell? ⟨w.heap.size, 0, none⟩ = some (.int .i64 (s : Int)) ∧ w1.cell? ⟨w.heap.size, 1, none⟩ = some (.int .i64 (t : Int)) ∧ w1.cell? ⟨w.heap.size, 2, none⟩ = some (.slice a len cap)) ∧
      Hid (Calls Try.prog 61 #[v1, .int .i64 (t : Int)] w1 fun e w2 => ∃ v2, e = .returned v2 ∧ (w2.cell? ⟨w.heap.size, 0, none⟩ = some (.int .i64 (s : Int)) ∧ w2.cell? ⟨w.heap.size, 1, none⟩ = some (.int .i64 (t : Int)) ∧ w2.cell? ⟨w.heap.size, 2, none⟩ = some (.slice a len cap)) ∧
        Hid (Calls Try.prog 60 #[v2, .slice a len cap] w2 fun e w3 => ∃ v3, e = .returned v3 ∧ (w3.cell? ⟨w.heap.size, 0, none⟩ = some (.int .i64 (s : Int)) ∧ w3.cell? ⟨w.heap.size, 1, none⟩ = some (.int .i64 (t : Int)) ∧ w3.cell? ⟨w.heap.size, 2, none⟩ = some (.slice a len cap)) ∧ Hid (BsA w0 w3 v3 (l ++ octC s t ws) ∧ BsK w v w3 v3)))) := Lib.hid (by
    have hb' : Below w.heap.size w (w.alloc (.cells #[.int .i64 (s : Int), .int .i64 (t : Int), .slice a len cap] 45)).drew := ((Below.refl _ w).alloc (Nat.le_refl _) _).drew
    have hnil : Bs 5 w0.heap.size (w.alloc (.cells #[.int .i64 (s : Int), .int .i64 (t : Int), .slice a len cap] 45)).drew v l := hown.1.grow ⟨hb'.os, hb'.tape, hb'.output, hb'.size, fun k hk _ => hb'.block k hk⟩
    have hk0 : BsK w v (w.alloc (.cells #[.int .i64 (s : Int), .int .i64 (t : Int), .slice a len cap] 45)).drew v := BsK.alloc w v _
    refine (num_nat w0.heap.size v l s (by omega) _ (by omega) hbw.size hnil).mono ?_
    rintro e w1 ⟨v1, rfl, hown1, hup1⟩
    have hb1 := hbw.trans (hup1.below hnil hbw.size)
    have hne : v.ownBlock ≠ some w.heap.size := fun e => by have := (hown.1.size _ e).2; omega
    have hz1 := hup1.1.size
    refine ⟨v1, rfl, ⟨(hup1.cell hcl hne 0).trans (hbx 0), (hup1.cell hcl hne 1).trans (hbx 1), (hup1.cell hcl hne 2).trans (hbx 2)⟩, Lib.hid ((num_nat w0.heap.size v1 _ t (by omega) w1 (by rw [List.length_append]; omega) hb1.size hown1).mono ?_)⟩
    rintro e w2 ⟨v2, rfl, hown2, hup2⟩
    have hb2 := hb1.trans (hup2.below hown1 hb1.size)
    have hne1 := hup1.ne hcl hne
    have hcl1 : w.heap.size < w1.heap.size := by omega
    refine ⟨v2, rfl, ⟨(hup2.cell hcl1 hne1 0).trans ((hup1.cell hcl hne 0).trans (hbx 0)), (hup2.cell hcl1 hne1 1).trans ((hup1.cell hcl hne 1).trans (hbx 1)), (hup2.cell hcl1 hne1 2).trans ((hup1.cell hcl hne 2).trans (hbx 2))⟩, Lib.hid ((layWrites_any h hl hle hsz v2 _ (by rw [List.length_append, List.length_append]; omega) ⟨hown2, hb2⟩).mono ?_)⟩
    rintro e w3 ⟨v3, rfl, h3, hk3⟩
    have hcl2 : w.heap.size < w2.heap.size := by have := hup2.1.size; omega
    have hne2 := hup2.ne hcl1 hne1
    have hc3 : ∀ i, w3.cell? ⟨w.heap.size, i, none⟩ = w2.cell? ⟨w.heap.size, i, none⟩ := fun i => World.cell?_of_block (a := ⟨w.heap.size, i, none⟩) (hk3.2 _ hcl2 hne2).1
    have hc2 : ∀ i, w2.cell? ⟨w.heap.size, i, none⟩ = (#[.int .i64 (s : Int), .int .i64 (t : Int), .slice a len cap] : Array Value)[i]? := fun i => (hup2.cell hcl1 hne1 i).trans ((hup1.cell hcl hne i).trans (hbx i))
    refine ⟨v3, rfl, ⟨(hc3 0).trans (hc2 0), (hc3 1).trans (hc2 1), (hc3 2).trans (hc2 2)⟩, Lib.hid ?_⟩
    refine ⟨?_, ((hk0.trans hup1.keep).trans hup2.keep).trans hk3⟩
    unfold octC
    rw [List.append_assoc, List.append_assoc] at h3
    exact h3)
  clear h hl hsz hb hbw hbx hcl hs9 ht9 hs ht hle hown hll
  go_enter Try.func62, Try.ntmps62
  go_wp2_with fail
  refine wp_region_held_drew (S := fun w' => w'.cell? ⟨w.heap.size, 0, none⟩ = some (.int .i64 (s : Int)) ∧ w'.cell? ⟨w.heap.size, 1, none⟩ = some (.int .i64 (t : Int)) ∧ w'.cell? ⟨w.heap.size, 2, none⟩ = some (.slice a len cap)) (by kernel_rfl) (by exact HS0.out) (fun hHeld => ?_)
  refine wpAnyH_take (i := 0) (oi := _) (v := ?_) rfl (by kernel_rfl) (by kernel_rfl) (by kernel_rfl) (fun _ _ _ h => h) (Or.inl ⟨by rfl, ?_⟩) (by assumption) ?_
  rotate_left
  · (intro w' hSw; (try dsimp only at hSw); go_simp; all_goals with_reducible rfl)
  try simp only [Act.put, List.getElem_toArray, List.getElem_cons_zero, List.getElem_cons_succ, List.setIfInBounds_toArray, List.set_cons_zero, List.set_cons_succ]
  refine wpAnyH_take (i := 1) (oi := _) (v := ?_) rfl (by kernel_rfl) (by kernel_rfl) (by kernel_rfl) (fun _ _ _ h => h) (Or.inl ⟨by rfl, ?_⟩) (by assumption) ?_
  rotate_left
  · (intro w' hSw; (try dsimp only at hSw); go_simp; all_goals with_reducible rfl)
  try simp only [Act.put, List.getElem_toArray, List.getElem_cons_zero, List.getElem_cons_succ, List.setIfInBounds_toArray, List.set_cons_zero, List.set_cons_succ]
  refine wpAnyH_take (i := 2) (oi := _) (v := ?_) rfl (by kernel_rfl) (by kernel_rfl) (by kernel_rfl) (fun _ _ _ h => h) (Or.inl ⟨by rfl, ?_⟩) (by assumption) ?_
  rotate_left
  · (intro w' hSw; (try dsimp only at hSw); go_simp; all_goals with_reducible rfl)
  try simp only [Act.put, List.getElem_toArray, List.getElem_cons_zero, List.getElem_cons_succ, List.setIfInBounds_toArray, List.set_cons_zero, List.set_cons_succ]
  refine wpAnyH_take (i := 4) (oi := _) (v := ?_) rfl (by kernel_rfl) (by kernel_rfl) (by kernel_rfl) (fun _ _ _ h => h) (Or.inl ⟨by rfl, ?_⟩) (by assumption) ?_
  rotate_left
  · (intro w' hSw; (try dsimp only at hSw); go_simp; all_goals with_reducible rfl)
  try simp only [Act.put, List.getElem_toArray, List.getElem_cons_zero, List.getElem_cons_succ, List.setIfInBounds_toArray, List.set_cons_zero, List.set_cons_succ]
  refine wpAnyH_take (i := 5) (oi := _) (v := ?_) rfl (by kernel_rfl) (by kernel_rfl) (by kernel_rfl) (fun _ _ _ h => h) (Or.inl ⟨by rfl, ?_⟩) (by assumption) ?_
  rotate_left
  · (intro w' hSw; (try dsimp only at hSw); go_simp; all_goals with_reducible rfl)
  try simp only [Act.put, List.getElem_toArray, List.getElem_cons_zero, List.getElem_cons_succ, List.setIfInBounds_toArray, List.set_cons_zero, List.set_cons_succ]
  refine wpAnyH_take (i := 7) (oi := _) (v := ?_) rfl (by kernel_rfl) (by kernel_rfl) (by kernel_rfl) (fun _ _ _ h => h) (Or.inl ⟨by rfl, ?_⟩) (by assumption) ?_
  rotate_left
  · (intro w' hSw; (try dsimp only at hSw); go_simp; all_goals with_reducible rfl)
  try simp only [Act.put, List.getElem_toArray, List.getElem_cons_zero, List.getElem_cons_succ, List.setIfInBounds_toArray, List.set_cons_zero, List.set_cons_succ]
  refine wpAnyH_take (i := 8) (oi := _) (v := ?_) rfl (by kernel_rfl) (by kernel_rfl) (by kernel_rfl) (fun _ _ _ h => h) (Or.inl ⟨by rfl, ?_⟩) (by assumption) ?_
  rotate_left
  · (intro w' hSw; (try dsimp only at hSw); go_simp; all_goals with_reducible rfl)
  try simp only [Act.put, List.getElem_toArray, List.getElem_cons_zero, List.getElem_cons_succ, List.setIfInBounds_toArray, List.set_cons_zero, List.set_cons_succ]
  refine wpAnyH_ready (rs := [3]) (by kernel_rfl) (by simp) ?_
  refine AllReadyH.cons rfl (fun K hK => ?_) AllReadyH.nil
  go_simp
  refine HC.out.mono ?_
  rintro e w1 ⟨v1, rfl, hS1, HC2⟩
  refine hK.out _ _ (by exact hS1) (fun hHeld => ?_)
  clear hK K
  try simp only [Act.put, List.getElem_toArray, List.getElem_cons_zero, List.getElem_cons_succ, List.setIfInBounds_toArray, List.set_cons_zero, List.set_cons_succ]
  refine wpAnyH_ready (rs := [6]) (by kernel_rfl) (by simp) ?_
  refine AllReadyH.cons rfl (fun K hK => ?_) AllReadyH.nil
  go_simp
  refine HC2.out.mono ?_
  rintro e w2 ⟨v2, rfl, hS2, HC3⟩
  refine hK.out _ _ (by exact hS2) (fun hHeld => ?_)
  clear hK K
  try simp only [Act.put, List.getElem_toArray, List.getElem_cons_zero, List.getElem_cons_succ, List.setIfInBounds_toArray, List.set_cons_zero, List.set_cons_succ]
  refine wpAnyH_ready (rs := [9]) (by kernel_rfl) (by simp) ?_
  refine AllReadyH.cons rfl (fun K hK => ?_) AllReadyH.nil
  go_simp
  refine HC3.out.mono ?_
  rintro e w3 ⟨v3, rfl, hS3, HS⟩
  refine hK.out _ _ (by exact hS3) (fun hHeld => ?_)
  clear hK K
  try simp only [Act.put, List.getElem_toArray, List.getElem_cons_zero, List.getElem_cons_succ, List.setIfInBounds_toArray, List.set_cons_zero, List.set_cons_succ]
  refine wpAnyH_take (i := 10) (oi := _) (v := ?_) rfl (by kernel_rfl) (by kernel_rfl) (by kernel_rfl) (fun _ _ _ h => h) (Or.inl ⟨by rfl, ?_⟩) (by assumption) ?_
  rotate_left
  · (intro w' hSw; (try dsimp only at hSw); go_simp; all_goals with_reducible rfl)
  try simp only [Act.put, List.getElem_toArray, List.getElem_cons_zero, List.getElem_cons_succ, List.setIfInBounds_toArray, List.set_cons_zero, List.set_cons_succ]
  refine wpAnyH_done (by kernel_rfl) ?_ _
  go_wp2
  go_ret
  exact ⟨v3, rfl, HS.out⟩

theorem layCommit_any {w0 w : World} {a : Option Addr} {len cap : Nat} {ws : List Wr} (h : WrsIs w0 a ws) (hl : ws.length = len) (hle : len ≤ 1000000) (hsz : ∀ x ∈ ws, x.key.size ≤ 5000 ∧ x.val.size ≤ 5000) (s t : Nat) (hs : s ≤ 1099511627776) (ht : t ≤ 1099511627776) (hb : Below w0.heap.size w0 w) :
    Calls Try.prog 62 #[.slice none 0 0, .agg #[.int .i64 (s : Int), .int .i64 (t : Int), .slice a len cap]] w fun e w' => ∃ v', e = .returned v' ∧ BsA w0 w' v' (octC s t ws) := by
  refine (layC_any h hl hle hsz s t hs ht (.slice none 0 0) [] (by simp) ⟨Bs.nil 5 w0.heap.size w, hb⟩).mono ?_
  rintro e w' ⟨v', rfl, h1, _⟩
  exact ⟨v', rfl, by simpa using h1⟩

theorem rightCm_of {s t : Int} {ws : List Wr} (h : rightCm s t ws = true) : ∃ m n : Nat, s = (m : Int) ∧ t = (n : Int) ∧ m ≤ 1099511627776 ∧ n ≤ 1099511627776 ∧ 1 ≤ m ∧ ws.length ≤ 200 ∧ ∀ x ∈ ws, x.key.size ≤ 400 ∧ x.val.size ≤ 4096 := by
  unfold rightCm rightL at h
  simp only [Bool.and_eq_true, decide_eq_true_eq] at h
  obtain ⟨⟨⟨⟨h1, h2⟩, h3⟩, h4⟩, h5, h6⟩ := h
  refine ⟨s.toNat, t.toNat, by omega, by omega, by omega, by omega, by omega, h5, fun x hx => ?_⟩
  obtain ⟨i, hi, rfl⟩ := List.getElem_of_mem hx
  exact isR_size (isR_of hi (rightW_get h6 hi))

set_option maxHeartbeats 2000000 in
set_option maxRecDepth 100000 in
theorem commit_no {w : World} {a : Option Addr} {len cap : Nat} {ws : List Wr} (h : WrsIs w a ws) (hl : ws.length = len) (hle : len ≤ 1000000) (s t : Int) (hr : rightCm s t ws = false) :
    Calls Try.prog 30 #[.agg #[.int .i64 s, .int .i64 t, .slice a len cap]] w fun e w' => e = .returned (.tuple #[.string ⟨#[]⟩, .int .i64 1]) ∧ Below w.heap.size w w' := by
  have hb0 := (Below.refl _ w).alloc (Nat.le_refl _) (.cells #[.int .i64 s, .int .i64 t, .slice a len cap] 45)
  have HC := Lib.hid (recRight_any (cap := cap) (h.below hb0) hl hle s t)
  rw [hr] at HC
  have HB0 := Lib.hid hb0
  clear h hl hr hb0
  go_enter Try.func30, Try.ntmps30
  go_wp2_with fail
  refine HC.out.mono ?_
  rintro e w1 ⟨rfl, hb⟩
  have HB := Lib.hid (HB0.out.trans (hb.mono HB0.out.size))
  clear hb HC HB0
  go_wp2
  exact bodyPost_ret (v := .tuple #[.string ⟨#[]⟩, .int .i64 1]) (by simp [results, Try.results30, go_sem]) rfl ⟨rfl, HB.out⟩

set_option maxHeartbeats 2000000 in
set_option maxRecDepth 100000 in
theorem commit_yes {w : World} {a : Option Addr} {len cap : Nat} {ws : List Wr} (h : WrsIs w a ws) (hl : ws.length = len) (m n : Nat) (hr : rightCm (m : Int) (n : Int) ws = true) :
    Calls Try.prog 30 #[.agg #[.int .i64 (m : Int), .int .i64 (n : Int), .slice a len cap]] w fun e w' => e = .returned (.tuple #[.string ⟨(octC m n ws).toArray⟩, .int .i64 0]) ∧ Below w.heap.size w w' := by
  obtain ⟨m', n', e1, e2, h1, h2, _, h3, h4⟩ := rightCm_of hr
  obtain rfl : m = m' := by omega
  obtain rfl : n = n' := by omega
  clear e1 e2
  have hb0 := (Below.refl _ w).alloc (Nat.le_refl _) (.cells #[.int .i64 (m : Int), .int .i64 (n : Int), .slice a len cap] 45)
  have HC := Lib.hid (recRight_any (cap := cap) (h.below hb0) hl (by omega) (m : Int) (n : Int))
  rw [hr] at HC
  have HB0 := Lib.hid hb0
  have hbx : ∀ i, (w.alloc (.cells #[.int .i64 (m : Int), .int .i64 (n : Int), .slice a len cap] 45)).cell? ⟨w.heap.size, i, none⟩ = (#[.int .i64 (m : Int), .int .i64 (n : Int), .slice a len cap] : Array Value)[i]? := fun i => cell_of_row _ _ i _ _ (0, 0) (heap_alloc_new w _)
  have HL : Hid (∀ w1, Below (w.alloc (.cells #[.int .i64 (m : Int), .int .i64 (n : Int), .slice a len cap] 45)).heap.size (w.alloc (.cells #[.int .i64 (m : Int), .int .i64 (n : Int), .slice a len cap] 45)) w1 →
      (w1.cell? ⟨w.heap.size, 0, none⟩ = some (.int .i64 (m : Int)) ∧ w1.cell? ⟨w.heap.size, 1, none⟩ = some (.int .i64 (n : Int)) ∧ w1.cell? ⟨w.heap.size, 2, none⟩ = some (.slice a len cap)) ∧
      Calls Try.prog 62 #[.slice none 0 0, .agg #[.int .i64 (m : Int), .int .i64 (n : Int), .slice a len cap]] w1 fun e w2 => ∃ v2, e = .returned v2 ∧ (convert 68 9 v2).run Try.prog w2 = .ok (.string ⟨(octC m n ws).toArray⟩) w2 ∧ Hid (Below w.heap.size w w2)) := Lib.hid fun w1 hb1 => by
    have hz : w.heap.size < (w.alloc (.cells #[.int .i64 (m : Int), .int .i64 (n : Int), .slice a len cap] 45)).heap.size := by simp
    have hbw := HB0.out.trans (hb1.mono HB0.out.size)
    refine ⟨⟨(hb1.cell (p := ⟨w.heap.size, 0, none⟩) hz).trans (hbx 0), (hb1.cell (p := ⟨w.heap.size, 1, none⟩) hz).trans (hbx 1), (hb1.cell (p := ⟨w.heap.size, 2, none⟩) hz).trans (hbx 2)⟩, ?_⟩
    refine (layCommit_any h hl (by omega) (fun x hx => by have := h4 x hx; omega) m n h1 h2 hbw).mono ?_
    rintro e w2 ⟨v2, rfl, ho, hb2⟩
    exact ⟨v2, rfl, conv_bs 5 w.heap.size w2 68 9 Try.underlying68 Try.underlying5 Try.underlying9 v2 _ ho, Lib.hid hb2⟩
  obtain ⟨L, hL⟩ : ∃ L, L = (octC m n ws).toArray := ⟨_, rfl⟩
  rw [← hL] at HL ⊢
  clear h hl hr hb0 h1 h2 h3 h4 hbx hL
  go_enter Try.func30, Try.ntmps30
  go_wp2_with fail
  refine HC.out.mono ?_
  rintro e w1 ⟨rfl, hb⟩
  obtain ⟨⟨c0, c1, c2⟩, hlay⟩ := HL.out w1 hb
  have HLAY := Lib.hid hlay
  clear hb HC HB0 HL hlay
  go_wp2_with fail
  refine HLAY.out.mono ?_
  rintro e w2 ⟨v2, rfl, hcv, HB⟩
  clear HLAY
  go_wp2
  exact bodyPost_ret (v := .tuple #[.string ⟨L⟩, .int .i64 0]) (by simp [results, Try.results30, go_sem]) rfl ⟨rfl, HB.out⟩

end Go.Proofs.Ytcebnoapgceodaa
end

section
namespace Go.Proofs.Ytcebnoapgceodaa
open Go.RowKit

set_option linter.unusedVariables false
set_option linter.unusedSimpArgs false

noncomputable def smB (p : Prop) : Bool := @decide p (Classical.propDecidable p)
theorem smB_true {p : Prop} (h : p) : smB p = true := @decide_eq_true p (Classical.propDecidable p) h
theorem smB_false {p : Prop} (h : ¬ p) : smB p = false := @decide_eq_false p (Classical.propDecidable p) h

def eqW (x y : Wr) : Bool := x.key.toList == y.key.toList && (x.val.toList == y.val.toList && x.gone == y.gone)
theorem bl_inj {a b : ByteArray} (h : a.toList = b.toList) : a = b := by
  rw [Lib.toList_data, Lib.toList_data] at h
  exact ByteArray.ext (Array.toList_inj.1 h)
theorem eqW_iff (x y : Wr) : eqW x y = true ↔ x = y := by
  obtain ⟨k, v, g⟩ := x
  obtain ⟨k', v', g'⟩ := y
  unfold eqW
  simp only [Bool.and_eq_true, beq_iff_eq]
  constructor
  · rintro ⟨h1, h2, h3⟩
    rw [bl_inj h1, bl_inj h2, h3]
  · intro h
    injection h with h1 h2 h3
    subst h1 h2 h3
    exact ⟨rfl, rfl, rfl⟩

theorem neq_run (x y : Wr) (W : World) : (binOp .neq 48 (.agg #[.string x.key, .string x.val, .bool x.gone]) (.agg #[.string y.key, .string y.val, .bool y.gone])).run Try.prog W = .ok (.bool (!eqW x y)) W := by
  go_simp
  by_cases h1 : x.key.toList = y.key.toList <;> by_cases h2 : x.val.toList = y.val.toList <;> by_cases h3 : x.gone = y.gone <;> simp [h1, h2, h3, eqW]
attribute [-go_sem] run_neq_struct
attribute [local irreducible] wpStill

theorem list_eq {ws vs : List Wr} (hl : ws.length = vs.length) (h : ∀ i (h1 : i < ws.length) (h2 : i < vs.length), ws[i] = vs[i]) : ws = vs := List.ext_getElem hl fun i h1 h2 => h i h1 h2

set_option maxHeartbeats 4000000 in
set_option maxRecDepth 100000 in
theorem same_any {w : World} {a1 a2 : Option Addr} {len1 len2 cap1 cap2 : Nat} {ws vs : List Wr} (h1 : WrsIs w a1 ws) (hl1 : ws.length = len1) (h2 : WrsIs w a2 vs) (hl2 : vs.length = len2) (hle1 : len1 ≤ 1000000) (hle2 : len2 ≤ 1000000) (s1 t1 s2 t2 : Int) :
    Calls Try.prog 28 #[.agg #[.int .i64 s1, .int .i64 t1, .slice a1 len1 cap1], .agg #[.int .i64 s2, .int .i64 t2, .slice a2 len2 cap2]] w fun e w' => e = .returned (.bool (smB (s1 = s2 ∧ t1 = t2 ∧ ws = vs))) ∧ Below w.heap.size w w' := by
  have hb0 : Below w.heap.size w ((w.alloc (.cells #[.int .i64 s1, .int .i64 t1, .slice a1 len1 cap1] 45)).alloc (.cells #[.int .i64 s2, .int .i64 t2, .slice a2 len2 cap2] 45)) := ((Below.refl _ w).alloc (Nat.le_refl _) _).alloc (by simp) _
  have HB0 := Lib.hid hb0
  obtain ⟨SM, hSM⟩ : ∃ SM, SM = smB (s1 = s2 ∧ t1 = t2 ∧ ws = vs) := ⟨_, rfl⟩
  rw [← hSM]
  by_cases hs : s1 = s2
  · by_cases ht : t1 = t2
    · by_cases hl : len1 = len2
      · subst hs ht hl
        have hx1 : ∀ i, ((w.alloc (.cells #[.int .i64 s1, .int .i64 t1, .slice a1 len1 cap1] 45)).alloc (.cells #[.int .i64 s1, .int .i64 t1, .slice a2 len1 cap2] 45)).cell? ⟨w.heap.size, i, none⟩ = (#[.int .i64 s1, .int .i64 t1, .slice a1 len1 cap1] : Array Value)[i]? := fun i =>
          (World.cell?_of_block (a := ⟨w.heap.size, i, none⟩) (Below.heap_alloc _ _ _ (by simp))).trans (cell_of_row _ _ i _ _ (0, 0) (heap_alloc_new w _))
        have hx2 : ∀ i, ((w.alloc (.cells #[.int .i64 s1, .int .i64 t1, .slice a1 len1 cap1] 45)).alloc (.cells #[.int .i64 s1, .int .i64 t1, .slice a2 len1 cap2] 45)).cell? ⟨w.heap.size + 1, i, none⟩ = (#[.int .i64 s1, .int .i64 t1, .slice a2 len1 cap2] : Array Value)[i]? := fun i => by
          have h9 := heap_alloc_new (w.alloc (.cells #[.int .i64 s1, .int .i64 t1, .slice a1 len1 cap1] 45)) (.cells #[.int .i64 s1, .int .i64 t1, .slice a2 len1 cap2] 45)
          rw [World.size_alloc] at h9
          exact cell_of_row _ _ i _ _ (0, 0) h9
        obtain ⟨W0, hW0⟩ : ∃ W0, W0 = ((w.alloc (.cells #[.int .i64 s1, .int .i64 t1, .slice a1 len1 cap1] 45)).alloc (.cells #[.int .i64 s1, .int .i64 t1, .slice a2 len1 cap2] 45)) := ⟨_, rfl⟩
        have hz : W0.heap.size = w.heap.size + 2 := by rw [hW0]; simp
        have HX : Hid (∀ W n, W = W0.drewN n → Below w.heap.size w W ∧ (W.cell? ⟨w.heap.size, 2, none⟩ = some (.slice a1 len1 cap1) ∧ W.cell? ⟨w.heap.size + 1, 2, none⟩ = some (.slice a2 len1 cap2))) := Lib.hid fun W n hW => by
          subst hW
          rw [← hW0] at hx1 hx2 hb0
          exact ⟨⟨hb0.os, hb0.tape, hb0.output, hb0.size, hb0.block⟩, hx1 2, hx2 2⟩
        have H1 := Lib.hid h1
        have H2 := Lib.hid h2
        have HL1 := Lib.hid hl1
        have HL2 := Lib.hid hl2
        have HT : Hid ((∀ i (h1 : i < ws.length) (h2 : i < vs.length), ws[i] = vs[i]) → smB (s1 = s1 ∧ t1 = t1 ∧ ws = vs) = true) := Lib.hid fun h => smB_true ⟨rfl, rfl, list_eq (by omega) h⟩
        have HF : Hid (∀ i (h1 : i < ws.length) (h2 : i < vs.length), ws[i] ≠ vs[i] → smB (s1 = s1 ∧ t1 = t1 ∧ ws = vs) = false) := Lib.hid fun i h1 h2 hne => smB_false fun h => hne (by have := h.2.2; subst this; rfl)
        rw [← hSM] at HT HF
        clear h1 h2 hl1 hl2 hx1 hx2 hb0 hSM
        go_enter Try.func28, Try.ntmps28
        go_wp2_with fail
        rw [← hW0]
        clear hW0 HB0
        go_loopw [30] (fun i wr => ∃ k n : Nat, k ≤ len1 ∧ i = .int .i64 (k : Int) ∧ wr = W0.drewN n ∧ Hid (∀ i (hi : i < k) (h1 : i < ws.length) (h2 : i < vs.length), ws[i] = vs[i])) (fun i _ => len1 - (intOf i).toNat)
        case atStart => exact ⟨0, 0, Nat.zero_le _, rfl, rfl, Lib.hid fun i hi => by omega⟩
        case round =>
          obtain ⟨k, n, hk, rfl, hwr, HE⟩ := hrel
          obtain ⟨hbw, c1, c2⟩ := HX.out wr n hwr
          by_cases hlt : k < len1
          · have hk1 : k < ws.length := by rw [HL1.out]; exact hlt
            have hk2 : k < vs.length := by rw [HL2.out]; exact hlt
            obtain ⟨b, off, rfl, hb, hin, _⟩ := H1.out.at_ k hk1
            obtain ⟨b', off', rfl, hb', hin', _⟩ := H2.out.at_ k hk2
            have HFk := Lib.hid (HF.out k hk1 hk2)
            obtain ⟨x, hx⟩ : ∃ x, x = ws[k] := ⟨_, rfl⟩
            obtain ⟨y, hy⟩ : ∃ y, y = vs[k] := ⟨_, rfl⟩
            rw [← hx, ← hy] at HFk
            rw [← hx] at hin
            rw [← hy] at hin'
            have hin2 : WrIn wr b (off + k * 3) x := by
              obtain ⟨h0, h1, h2⟩ := hin
              exact ⟨(hbw.cell (p := ⟨b, _, none⟩) hb).trans h0, (hbw.cell (p := ⟨b, _, none⟩) hb).trans h1, (hbw.cell (p := ⟨b, _, none⟩) hb).trans h2⟩
            have hin3 : WrIn wr b' (off' + k * 3) y := by
              obtain ⟨h0, h1, h2⟩ := hin'
              exact ⟨(hbw.cell (p := ⟨b', _, none⟩) hb').trans h0, (hbw.cell (p := ⟨b', _, none⟩) hb').trans h1, (hbw.cell (p := ⟨b', _, none⟩) hb').trans h2⟩
            obtain ⟨q0, q1, q2⟩ := hin2
            obtain ⟨r0, r1, r2⟩ := hin3
            have hcmp := neq_run x y
            have HB := Lib.hid hbw
            have HWN : Hid (wr.drew = W0.drewN (n + 1)) := Lib.hid (by rw [hwr]; rfl)
            have HXY := Lib.hid (And.intro hx hy)
            clear hin hin' hbw hwr HF hx hy
            have HHE := Lib.hid HE
            clear HE
            by_cases hxy : x = y
            · have he : eqW x y = true := (eqW_iff x y).2 hxy
              rw [he] at hcmp
              simp only [Bool.not_true, Bool.not_false] at hcmp
              have HE' : Hid (∀ i (hi : i < k + 1) (h1 : i < ws.length) (h2 : i < vs.length), ws[i] = vs[i]) := Lib.hid fun i hi h1 h2 => by
                by_cases hik : i = k
                · subst hik; rw [← HXY.out.1, ← HXY.out.2]; exact hxy
                · exact HHE.out.out i (by omega) h1 h2
              clear HFk HXY HHE HX H1 H2 HL1 HL2 HT hxy he
              go_wp2_with fail
              refine wp_region_still_lit (by rfl) (by kernel_rfl) ?_
              change wpStill _ _ (World.drew _) (fun a' => _) _ _
              repeat still_step
              refine wpStill_nil ?_
              go_wp2_with fail
              go_roundw
              · exact ⟨k + 1, n + 1, by omega, by rw [show ((k : Int) + 1) = ((k + 1 : Nat) : Int) by omega], HWN.out, HE'⟩
              · simp [intOf]; omega
            · have he : eqW x y = false := by rw [Bool.eq_false_iff]; exact fun h => hxy ((eqW_iff x y).1 h)
              rw [he] at hcmp
              simp only [Bool.not_true, Bool.not_false] at hcmp
              have HF2 : Hid (SM = false) := Lib.hid (HFk.out hxy)
              clear HFk HXY HHE HX H1 H2 HL1 HL2 HT hxy he
              go_wp2_with fail
              refine wp_region_still_lit (by rfl) (by kernel_rfl) ?_
              change wpStill _ _ (World.drew _) (fun a' => _) _ _
              repeat still_step
              refine wpStill_nil ?_
              go_wp2
              go_ret
              exact ⟨by rw [HF2.out]; simp, HB.out.drew⟩
          · obtain rfl : k = len1 := by omega
            have HF2 : Hid (SM = true) := Lib.hid (HT.out fun i h1 h2 => HE.out i (by have := HL1.out; omega) h1 h2)
            have HB := Lib.hid hbw
            clear hwr hbw HE HT HF H1 H2 HX
            go_wp2
            go_ret
            exact ⟨by rw [HF2.out]; simp, HB.out⟩
      · have hne : ws ≠ vs := fun e => hl (by rw [← hl1, ← hl2, e])
        have HSM : Hid (SM = false) := Lib.hid (hSM.trans (smB_false fun h => hne h.2.2))
        have hlI : ¬ (len1 : Int) = (len2 : Int) := by omega
        subst hs ht
        clear hb0 hne h1 h2 hl1 hl2 hSM
        go_enter Try.func28, Try.ntmps28
        go_wp2
        go_ret
        exact ⟨by rw [HSM.out]; simp, HB0.out⟩
    · have HSM : Hid (SM = false) := Lib.hid (hSM.trans (smB_false fun h => ht h.2.1))
      subst hs
      clear hb0 h1 h2 hl1 hl2 hSM
      go_enter Try.func28, Try.ntmps28
      go_wp2
      go_ret
      exact ⟨by rw [HSM.out]; simp, HB0.out⟩
  · have HSM : Hid (SM = false) := Lib.hid (hSM.trans (smB_false fun h => hs h.1))
    clear hb0 h1 h2 hl1 hl2 hSM
    go_enter Try.func28, Try.ntmps28
    go_wp2
    go_ret
    exact ⟨by rw [HSM.out]; simp, HB0.out⟩

end Go.Proofs.Ytcebnoapgceodaa
end

section
namespace Go.Proofs.Ytcebnoapgceodaa
open Go.RowKit

set_option linter.unusedVariables false
set_option linter.unusedSimpArgs false

def hdW : Wr := ⟨⟨#[97]⟩, ⟨#[120]⟩, false⟩
theorem hdW_right : rightCm ((1 : Nat) : Int) ((0 : Nat) : Int) [hdW] = true := by kernel_rfl
theorem hdW_oct : octC 1 0 [hdW] = [1, 1, 0, 1, 1, 1, 1, 97, 0, 1, 1, 120] := by kernel_rfl

theorem hdW_is (w : World) : WrsIs (w.alloc (.cells #[.string ⟨#[97]⟩, .string ⟨#[120]⟩, .bool false] 48)) (some ⟨w.heap.size, 0, none⟩) [hdW] := by
  have hx : ∀ i, (w.alloc (.cells #[.string ⟨#[97]⟩, .string ⟨#[120]⟩, .bool false] 48)).cell? ⟨w.heap.size, i, none⟩ = (#[.string ⟨#[97]⟩, .string ⟨#[120]⟩, .bool false] : Array Value)[i]? := fun i => cell_of_row _ _ i _ _ (0, 0) (heap_alloc_new w _)
  refine .inr ⟨w.heap.size, 0, rfl, by simp, fun i hi => ?_⟩
  obtain rfl : i = 0 := by simpa using hi
  exact ⟨hx 0, hx 1, hx 2⟩

theorem head11_any (w : World) : Calls Try.prog 23 #[] w fun e w' => e = .returned (.bool true) ∧ Below w.heap.size w w' := by
  have hc : Calls Try.prog 30 #[.agg #[.int .i64 1, .int .i64 0, .slice (some ⟨w.heap.size, 0, none⟩) 1 1]] (w.alloc (.cells #[.string ⟨#[97]⟩, .string ⟨#[120]⟩, .bool false] 48)) fun e w' => e = .returned (.tuple #[.string ⟨#[1, 1, 0, 1, 1, 1, 1, 97, 0, 1, 1, 120]⟩, .int .i64 0]) ∧ Below w.heap.size w w' := by
    refine (commit_yes (cap := 1) (hdW_is w) rfl 1 0 hdW_right).mono ?_
    rintro e w' ⟨rfl, hb⟩
    rw [hdW_oct]
    have h0 := (Below.refl w.heap.size w).alloc (Nat.le_refl _) (.cells #[.string ⟨#[97]⟩, .string ⟨#[120]⟩, .bool false] 48)
    exact ⟨rfl, h0.trans (hb.mono h0.size)⟩
  have HC := Lib.hid hc
  clear hc
  go_enter Try.func23, Try.ntmps23
  go_wp2_with fail
  refine HC.out.mono ?_
  rintro e w' ⟨rfl, hb⟩
  go_wp2
  go_ret
  exact ⟨rfl, hb⟩

end Go.Proofs.Ytcebnoapgceodaa
end
end

section
section
namespace Go.Proofs.Ytcebnoapgceodaa.sT
open Go.RowKit Go.Proofs.Ytcebnoapgceodaa.tC

set_option linter.unusedVariables false
set_option linter.unusedSimpArgs false

theorem takes_pre {lo : Nat} {ws : List Wr} {cs : List CmM} {z : Nat} (h : Takes lo ws (cs.take z)) (hz : z < cs.length) (hf : (madeM lo ws (cs.take z)).fits (cs[z]).seq (cs[z]).at_ (cs[z]).ws = true) : Takes lo ws (cs.take (z + 1)) := by
  refine ⟨h.1, fun y hy => ?_⟩
  have hy2 : y < z + 1 := by rw [List.length_take] at hy; omega
  have e1 : (cs.take (z + 1)).take y = cs.take y := by rw [List.take_take, Nat.min_eq_left (by omega)]
  have e2 : (cs.take (z + 1))[y] = cs[y]'(by omega) := by rw [List.getElem_take]
  rw [e1, e2]
  by_cases h9 : y = z
  · subst h9; exact hf
  · have h3 := h.2 y (by rw [List.length_take]; omega)
    rw [List.take_take, Nat.min_eq_left (by omega), List.getElem_take] at h3
    exact h3
theorem takes_take {lo : Nat} {ws : List Wr} {cs : List CmM} (h : Takes lo ws cs) (z : Nat) : Takes lo ws (cs.take z) := by
  refine ⟨h.1, fun y hy => ?_⟩
  have hy2 : y < cs.length := by rw [List.length_take] at hy; omega
  have hy3 : y < z := by rw [List.length_take] at hy; omega
  rw [List.take_take, Nat.min_eq_left (by omega), List.getElem_take]
  exact h.2 y hy2
/-- how many writes there are in commits, and commits -/
def sumC (cs : List CmM) : Nat := (cs.map fun c => c.ws.length + 1).sum
theorem sumC_snoc (cs : List CmM) (c : CmM) : sumC (cs ++ [c]) = sumC cs + (c.ws.length + 1) := by unfold sumC; rw [List.map_append, List.sum_append]; simp
theorem sumC_cons (c : CmM) (cs : List CmM) : sumC (c :: cs) = c.ws.length + 1 + sumC cs := by unfold sumC; simp
theorem sumC_take : ∀ (cs : List CmM) (z : Nat), sumC (cs.take z) ≤ sumC cs
  | [], _ => by simp
  | c :: r, 0 => by simp [sumC]
  | c :: r, z + 1 => by rw [List.take_succ_cons, sumC_cons, sumC_cons]; have := sumC_take r z; omega
theorem sumC_get : ∀ (cs : List CmM) (z : Nat) (h : z < cs.length), sumC (cs.take z) + ((cs[z]).ws.length + 1) ≤ sumC cs
  | c :: r, 0, _ => by rw [sumC_cons]; simp [sumC]
  | c :: r, z + 1, h => by
    rw [List.take_succ_cons, sumC_cons, sumC_cons]
    have := sumC_get r z (by simpa using h)
    simp only [List.getElem_cons_succ]
    omega
theorem sumC_len : ∀ cs : List CmM, cs.length ≤ sumC cs
  | [] => by simp
  | c :: r => by rw [sumC_cons, List.length_cons]; have := sumC_len r; omega
theorem sumC_le {N : Nat} : ∀ cs : List CmM, (∀ c ∈ cs, c.ws.length ≤ N) → sumC cs ≤ cs.length * (N + 1)
  | [], _ => by simp [sumC]
  | c :: r, h => by
    rw [sumC_cons, List.length_cons, Nat.add_mul]
    have h1 := h c List.mem_cons_self
    have h2 := sumC_le r fun x hx => h x (List.mem_cons_of_mem _ hx)
    omega
theorem sg_take {lo : Nat} {ws : List Wr} {cs : List CmM} : ∀ z, z ≤ cs.length → Takes lo ws (cs.take z) → SG (madeM lo ws (cs.take z)) (ws.length + sumC (cs.take z))
  | 0, _, _ => by simpa [madeM, sumC] using SG.base ws
  | z + 1, hz, h => by
    have hz2 : z < cs.length := by omega
    have h0 := takes_take h z
    rw [List.take_take, Nat.min_eq_left (by omega)] at h0
    have ih := sg_take z (by omega) h0
    have h3 := h.2 z (by rw [List.length_take]; omega)
    rw [List.take_take, Nat.min_eq_left (by omega), List.getElem_take] at h3
    rw [List.take_succ_eq_append_getElem hz2, madeM_snoc, sumC_snoc]
    exact (ih.commit h3).mono (by omega)

/-- which commits follow a state's number -/
def FolC (seq : Int) (cs : List CmM) : Prop := ∀ i (h : i < cs.length), (cs[i]).seq = seq + 1 + i ∧ (cs[i]).seq ≤ 1099511627776 ∧ 0 ≤ (cs[i]).at_ ∧ (cs[i]).at_ ≤ 1099511627776 ∧ rightL (cs[i]).ws = true ∧ (i = 0 ∨ ∃ h2 : i - 1 < cs.length, (cs[i - 1]).at_ ≤ (cs[i]).at_)
theorem made_least (lo : Nat) (ws : List Wr) (cs : List CmM) (z : Nat) (hz : z ≤ cs.length) : (madeM lo ws (cs.take z)).least = if h : 0 < z then (cs[z - 1]'(by omega)).at_ else 0 := by
  obtain ⟨_, h2⟩ := madeM_low lo ws (cs.take z)
  unfold StM.least
  rw [h2]
  cases z with
  | zero => simp
  | succ y =>
    rw [List.take_succ_eq_append_getElem (by omega), List.getLast?_concat, dif_pos (by omega)]
    rfl
theorem made_last (lo : Nat) (ws : List Wr) (cs : List CmM) (z : Nat) (hz : z ≤ cs.length) : (madeM lo ws (cs.take z)).last = lo + z := by
  obtain ⟨h1, h2⟩ := madeM_low lo ws (cs.take z)
  unfold StM.last
  rw [h1, h2, List.length_take, Nat.min_eq_left hz]
theorem takes_iff (lo : Nat) (ws : List Wr) (cs : List CmM) : Takes lo ws cs ↔ newOK lo ws = true ∧ FolC lo cs := by
  constructor
  · rintro ⟨h1, h2⟩
    refine ⟨h1, ?_⟩
    have hat : ∀ i (h : i < cs.length), 0 ≤ (cs[i]).at_ := fun i => by
      induction i with
      | zero =>
        intro h
        have h3 := h2 0 h
        unfold StM.fits at h3
        rw [made_least lo ws cs 0 (by omega), dif_neg (by omega)] at h3
        simp only [Bool.and_eq_true, decide_eq_true_eq] at h3
        exact h3.1.1.2
      | succ j ih =>
        intro h
        have h3 := h2 (j + 1) h
        unfold StM.fits at h3
        rw [made_least lo ws cs (j + 1) (by omega), dif_pos (by omega)] at h3
        simp only [Bool.and_eq_true, decide_eq_true_eq] at h3
        have := ih (by omega)
        have h4 := h3.1.1.2
        simp only [Nat.add_sub_cancel] at h4
        omega
    intro i hi
    have h3 := h2 i hi
    unfold StM.fits at h3
    rw [made_last lo ws cs i (by omega)] at h3
    simp only [Bool.and_eq_true, decide_eq_true_eq] at h3
    obtain ⟨⟨⟨⟨k1, k2⟩, k3⟩, k4⟩, k5⟩ := h3
    refine ⟨by omega, k2, hat i hi, k4, k5, ?_⟩
    by_cases h0 : i = 0
    · exact .inl h0
    · rw [made_least lo ws cs i (by omega), dif_pos (by omega)] at k3
      exact .inr ⟨by omega, k3⟩
  · rintro ⟨h1, h2⟩
    refine ⟨h1, fun i hi => ?_⟩
    obtain ⟨k1, k2, k3, k4, k5, k6⟩ := h2 i hi
    have hl : (madeM lo ws (cs.take i)).least ≤ (cs[i]).at_ := by
      rw [made_least lo ws cs i (by omega)]
      by_cases h0 : 0 < i
      · rw [dif_pos h0]
        rcases k6 with k6 | ⟨_, k6⟩
        · omega
        · exact k6
      · rw [dif_neg h0]; exact k3
    unfold StM.fits
    rw [made_last lo ws cs i (by omega), k5, decide_eq_true (show (cs[i]).seq = ((lo + i : Nat) : Int) + 1 by omega), decide_eq_true k2, decide_eq_true hl, decide_eq_true k4]
    rfl

theorem right_rise {ws : List Wr} (h : rightW ws ws.length = true) : RiseW ws := by
  unfold RiseW
  have hstep : ∀ j (h2 : j + 1 < ws.length), Lt (ws[j]).key (ws[j + 1]).key := fun j h2 => by
    have h3 := rightW_get h h2
    unfold okR at h3
    rw [List.getElem?_eq_getElem h2] at h3
    simp only [Bool.and_eq_true] at h3
    have h4 := h3.2
    rw [List.getElem?_eq_getElem (show j < ws.length by omega)] at h4
    simp only at h4
    rw [← less_up] at h4
    rw [Lib.toList_data, Lib.toList_data, bytesLess_eq] at h4
    exact of_decide_eq_true h4
  rw [List.pairwise_iff_getElem]
  intro i j hi hj hij
  induction j with
  | zero => omega
  | succ k ih =>
    by_cases h9 : i = k
    · subst h9; exact hstep i hj
    · exact (ih (by omega) (by omega)).trans (hstep k hj)

theorem new_parts {lo : Int} {ws : List Wr} (h : newOK lo ws = true) : 0 ≤ lo ∧ lo ≤ 1099511627776 ∧ rightW ws ws.length = true ∧ ∀ w ∈ ws, w.gone = false := by
  unfold newOK at h
  simp only [Bool.and_eq_true, decide_eq_true_eq, Bool.not_eq_true'] at h
  refine ⟨h.1.1.1, h.1.1.2, h.1.2, fun w hw => ?_⟩
  have h2 := h.2
  rw [List.any_eq_false] at h2
  simpa using h2 w hw

theorem kv_keys (ws : List Wr) : keysOf (ws.map kvW) = ws.map Wr.key := by
  unfold tC.keysOf kvW
  rw [List.map_map]
  rfl
theorem get_kv {ws : List Wr} (hr : RiseW ws) (hg : ∀ w ∈ ws, w.gone = false) (key : ByteArray) : getK (ws.map kvW) key = lastW ws key := by
  induction ws with
  | nil => rfl
  | cons a r ih =>
    obtain ⟨h1, h2⟩ := List.pairwise_cons.1 hr
    have ih2 := ih h2 fun w hw => hg w (List.mem_cons_of_mem _ hw)
    rw [List.map_cons, get_cons]
    unfold lastW
    by_cases e : a.key = key
    · have hn : r.filter (fun w => decide (w.key = key)) = [] := List.filter_eq_nil_iff.2 fun w hw => by
        have := h1 w hw
        have h3 : a.key ≠ w.key := lt_ne this
        simpa using fun h4 => h3 (e.trans h4.symm)
      rw [if_pos (show (kvW a).1 = key from e), List.filter_cons_of_pos (by simpa using e), hn]
      simp only [List.getLast?_singleton]
      rw [hg a List.mem_cons_self]
      rfl
    · rw [if_neg (show ¬ (kvW a).1 = key from e), List.filter_cons_of_neg (by simpa using e), ih2]
      rfl
theorem atM_kv {ws : List Wr} (hr : RiseW ws) (hg : ∀ w ∈ ws, w.gone = false) : atM ws = ws.map kvW := by
  refine ext_rise (atM_rise ws).1 ?_ fun k => ?_
  · rw [kv_keys]
    unfold RiseB
    exact List.pairwise_map.2 hr
  · rw [(atM_rise ws).2 k, get_kv hr hg]
theorem kv_inj : ∀ {a b : List Wr}, (∀ w ∈ a, w.gone = false) → (∀ w ∈ b, w.gone = false) → a.map kvW = b.map kvW → a = b
  | [], [], _, _, _ => rfl
  | [], _ :: _, _, _, h => by simp at h
  | _ :: _, [], _, _, h => by simp at h
  | x :: a, y :: b, ha, hb, h => by
    rw [List.map_cons, List.map_cons] at h
    injection h with h1 h2
    unfold kvW at h1
    injection h1 with h3 h4
    injection h4 with h4
    have hx := ha x List.mem_cons_self
    have hy := hb y List.mem_cons_self
    have e : x = y := by
      obtain ⟨_, _, _⟩ := x
      obtain ⟨_, _, _⟩ := y
      simp only at h3 h4 hx hy
      rw [h3, h4, hx, hy]
    rw [e, kv_inj (fun w hw => ha w (List.mem_cons_of_mem _ hw)) (fun w hw => hb w (List.mem_cons_of_mem _ hw)) h2]

/-- behind its first commit's number a made store tells its base -/
theorem made_base {lo : Nat} {ws : List Wr} {cs : List CmM} (h : Takes lo ws cs) : (madeM lo ws cs).baseL (lo : Int) = ws := by
  obtain ⟨h1, h2⟩ := (takes_iff lo ws cs).1 h
  obtain ⟨_, _, k3, k4⟩ := new_parts h1
  have hr := right_rise k3
  have hcs : ∀ z (h : z < cs.length), (cs[z]).seq = (lo : Int) + 1 + z := fun z hz => (h2 z hz).1
  have ht := tell_at (base := ws) hcs (seq := (lo : Int)) (Int.le_refl _) (by omega)
  have hu : upTo ws cs (lo : Int) = ws := by
    rw [upTo_is' (z := 0) (fun i hi h0 => by omega) (by omega) (by
      by_cases h0 : 0 < cs.length
      · exact .inr ⟨h0, by rw [hcs 0 h0]; omega⟩
      · exact .inl (by omega))]
    simp
  rw [hu, atM_kv hr k4] at ht
  rw [base_look]
  refine (kv_inj k4 (fun w hw => ?_) ht).symm
  unfold StM.look at hw
  split at hw
  · obtain ⟨p, _, hp⟩ := List.mem_filterMap.1 (show w ∈ (rangeM (madeM lo ws cs).keys ⟨#[]⟩ ⟨#[]⟩).filterMap (valM (lo : Int)) from hw)
    unfold valM at hp
    split at hp
    · injection hp with hp; rw [← hp]
    · cases hp
  · cases hw

end Go.Proofs.Ytcebnoapgceodaa.sT
end

section
namespace Go.Proofs.Ytcebnoapgceodaa.sT
open Go.RowKit Go.Proofs.Ytcebnoapgceodaa.tC

set_option linter.unusedVariables false
set_option linter.unusedSimpArgs false

theorem right_long {w : World} {a : Option Addr} {len cap : Nat} (h2 : 200 < len) :
    Calls Try.prog 112 #[.slice a len cap] w fun e w' => e = .returned (.bool false) ∧ Below w.heap.size w w' := by
  have h2I : ¬ (len : Int) ≤ 200 := by omega
  go_enter Try.func112, Try.ntmps112
  go_wp2
  all_goals
    go_ret
    exact ⟨rfl, Below.refl _ _⟩
theorem rightL_long {ws : List Wr} (h : 200 < ws.length) : rightL ws = false := by
  unfold rightL
  rw [decide_eq_false (by omega)]
  rfl
theorem right_all {w : World} {a : Option Addr} {len cap : Nat} {ws : List Wr} (h : WrsIs w a ws) (hl : ws.length = len) :
    Calls Try.prog 112 #[.slice a len cap] w fun e w' => e = .returned (.bool (rightL ws)) ∧ Below w.heap.size w w' := by
  by_cases h2 : len ≤ 1000000
  · exact right_any h hl h2
  · rw [rightL_long (by omega)]
    exact right_long (by omega)

set_option maxHeartbeats 2000000 in
set_option maxRecDepth 100000 in
theorem fits_all {P : Nat → Prop} {W : World} {s : Nat} {M : StM} (h : StoreAt P W s M) (seq at_ : Int) {a : Option Addr} {len cap : Nat} {ws : List Wr} (hw : WrsIs W a ws) (hl : ws.length = len) :
    Calls Try.prog 96 #[.pointer (some ⟨s, 0, none⟩), .agg #[.int .i64 seq, .int .i64 at_, .slice a len cap]] W fun e w' => e = .returned (.bool (M.fits seq at_ ws)) ∧ Below W.heap.size W w' := by
  obtain ⟨w0, hw0⟩ : ∃ w0, w0 = W.alloc (.cells #[.int .i64 seq, .int .i64 at_, .slice a len cap] 45) := ⟨_, rfl⟩
  have hb0 : Below W.heap.size W w0 := by rw [hw0]; exact (Below.refl _ _).alloc (Nat.le_refl _) _
  have hx0 : w0.heap[W.heap.size]? = some (.cells #[.int .i64 seq, .int .i64 at_, .slice a len cap] 45 (0, 0)) := by rw [hw0]; exact heap_alloc_new W _
  have hcS : ∀ w' : World, w'.heap[W.heap.size]? = w0.heap[W.heap.size]? → w'.cell? ⟨W.heap.size, 0, none⟩ = some (.int .i64 seq) ∧ w'.cell? ⟨W.heap.size, 1, none⟩ = some (.int .i64 at_) ∧ w'.cell? ⟨W.heap.size, 2, none⟩ = some (.slice a len cap) := fun w' hw => ⟨cell_of_row w' _ 0 _ _ (0, 0) (hw.trans hx0), cell_of_row w' _ 1 _ _ (0, 0) (hw.trans hx0), cell_of_row w' _ 2 _ _ (0, 0) (hw.trans hx0)⟩
  have hzw : W.heap.size < w0.heap.size := (Array.getElem?_eq_some_iff.1 hx0).1
  have HL : Hid (Calls Try.prog 18 #[.pointer (some ⟨s, 0, none⟩)] w0.drew fun e w' => e = .returned (.int .i64 (M.last : Int)) ∧ (w'.cell? ⟨W.heap.size, 0, none⟩ = some (.int .i64 seq) ∧ w'.cell? ⟨W.heap.size, 1, none⟩ = some (.int .i64 at_) ∧ w'.cell? ⟨W.heap.size, 2, none⟩ = some (.slice a len cap)) ∧ Hid (Below W.heap.size W w' ∧ Calls Try.prog 112 #[.slice a len cap] w' fun e w2 => e = .returned (.bool (rightL ws)) ∧ (w2.cell? ⟨W.heap.size, 0, none⟩ = some (.int .i64 seq) ∧ w2.cell? ⟨W.heap.size, 1, none⟩ = some (.int .i64 at_) ∧ w2.cell? ⟨W.heap.size, 2, none⟩ = some (.slice a len cap)) ∧ Hid (Below W.heap.size W w2))) := Lib.hid (by
    refine (stLast_any (h.below (hb0.drew))).mono ?_
    rintro e w' ⟨rfl, hb⟩
    have hb2 : Below W.heap.size W w' := hb0.drew.trans (hb.mono hb0.drew.size)
    refine ⟨rfl, hcS w' ((hb.block _ hzw).trans rfl), Lib.hid ⟨hb2, ?_⟩⟩
    refine (right_all (cap := cap) (hw.below hb2) hl).mono ?_
    rintro e w2 ⟨rfl, hb3⟩
    exact ⟨rfl, hcS w2 ((hb3.block _ (Nat.lt_of_lt_of_le hzw hb.size)).trans ((hb.block _ hzw).trans rfl)), Lib.hid (hb2.trans (hb3.mono hb2.size))⟩)
  have HF : Hid (M.fits seq at_ ws = (decide (seq = (M.last : Int) + 1) && decide (seq ≤ 1099511627776) && decide (M.least ≤ at_) && decide (at_ ≤ 1099511627776) && rightL ws)) := Lib.hid rfl
  have hla : (M.last : Int) ≤ 1099511627776 := by
    obtain ⟨cv, wvs, ls, BT, BC, BM, hS⟩ := h
    have := hS.sz
    unfold StM.last
    omega
  obtain ⟨fr, hfr⟩ : ∃ fr, fr = M.fits seq at_ ws := ⟨_, rfl⟩
  rw [← hfr] at HF ⊢
  obtain ⟨la, hlae⟩ : ∃ la : Nat, la = M.last := ⟨_, rfl⟩
  rw [← hlae] at HL HF hla
  obtain ⟨rb, hrb⟩ : ∃ rb, rb = rightL ws := ⟨_, rfl⟩
  rw [← hrb] at HL HF
  have hread : ∃ (ca : Option Addr) (cc : Nat), w0.cell? ⟨s, 1, none⟩ = some (.slice ca M.cms.length cc) ∧ M.cms.length ≤ cc ∧ cc ≤ maxLen ∧ (M.cms = [] ∨ ∃ g o, ca = some ⟨g, o, none⟩ ∧ w0.cell? ⟨g, o + (M.cms.length - 1) * 3 + 1, none⟩ = some (.int .i64 M.least)) := by
    obtain ⟨cv, wvs, ls, BT, BC, BM, hS⟩ := h
    have hS0 := hS.below hb0
    obtain ⟨_, ⟨ca, cc, rfl, h2, h3⟩, h1⟩ := hS0.reads
    refine ⟨ca, cc, h1, h2, h3, ?_⟩
    by_cases h0 : M.cms = []
    · exact .inl h0
    · have hpos := List.length_pos_iff.2 h0
      obtain ⟨g, o, rfl, _, _, hc⟩ := hS0.cm.at_ hpos
      obtain ⟨v, _, _, _, e4, _⟩ := cms_get hS0.ws (M.cms.length - 1) (by omega)
      exact .inr ⟨g, o, rfl, by rw [least_at hpos, Nat.add_assoc]; exact hc _ _ e4⟩
  obtain ⟨ca, cc, hc1, hcc, hcm, hcase⟩ := hread
  obtain ⟨lst, hlst⟩ : ∃ lst, lst = M.least := ⟨_, rfl⟩
  have hl0 : M.cms = [] → lst = 0 := fun e => by rw [hlst]; unfold StM.least; rw [e]; rfl
  rw [← hlst] at HF hcase
  obtain ⟨n, hn⟩ : ∃ n, n = M.cms.length := ⟨_, rfl⟩
  have hcase2 : (n = 0 ∧ lst = 0) ∨ ∃ m g o, n = m + 1 ∧ ca = some ⟨g, o, none⟩ ∧ w0.cell? ⟨g, o + m * 3 + 1, none⟩ = some (.int .i64 lst) := by
    rcases hcase with h0 | ⟨g, o, e, hc⟩
    · exact .inl ⟨by rw [hn, h0]; rfl, hl0 h0⟩
    · by_cases h0 : M.cms = []
      · exact .inl ⟨by rw [hn, h0]; rfl, hl0 h0⟩
      · have hpos := List.length_pos_iff.2 h0
        exact .inr ⟨M.cms.length - 1, g, o, by omega, e, hc⟩
  rw [← hn] at hc1 hcc
  obtain ⟨s0, s1, s2⟩ := hcS w0 rfl
  have hS1 := hcS w0.drew rfl
  have hn9 : (n : Int) ≤ 9223372036854775807 := by unfold maxLen at hcm; omega
  clear h hw hcS hx0 hb0 hlst hl0 hcase hn hfr hlae hrb hzw
  subst hw0
  rcases hcase2 with ⟨rfl, rfl⟩ | ⟨m, g, o, rfl, rfl, hcl⟩
  · go_enter Try.func96, Try.ntmps96
    go_wp2_with fail
    have hwl : IntKind.i64.wrap ((la : Int) + 1) = (la : Int) + 1 := by rw [IntKind.wrap_i64]; omega
    by_cases e1 : seq = (la : Int) + 1
    · have d1 : (seq == (la : Int) + 1) = true := by rw [beq_iff_eq]; exact e1
      have HE := Lib.hid e1
      clear e1
      by_cases e2 : seq ≤ 1099511627776
      · by_cases e3 : (0 : Int) ≤ at_
        · by_cases e4 : at_ ≤ 1099511627776
          · skip
            have HR : Hid (fr = rb) := Lib.hid (by rw [HF.out, decide_eq_true HE.out, decide_eq_true e2, decide_eq_true e3, decide_eq_true e4]; rfl)
            refine wp_region_held_drew (S := fun w' => w'.cell? ⟨W.heap.size, 0, none⟩ = some (.int .i64 seq) ∧ w'.cell? ⟨W.heap.size, 1, none⟩ = some (.int .i64 at_) ∧ w'.cell? ⟨W.heap.size, 2, none⟩ = some (.slice a len cap)) (by kernel_rfl) (by with_reducible exact hS1) (fun hHeld => ?_)
            refine wpAnyH_take (i := 0) (oi := _) (v := ?_) rfl (by kernel_rfl) (by kernel_rfl) (by kernel_rfl) (fun _ _ _ h => h) (Or.inl ⟨by rfl, ?_⟩) (by assumption) ?_
            rotate_left
            · (intro w' hSw; (try dsimp only at hSw); go_simp; all_goals with_reducible rfl)
            try simp only [Act.put, List.getElem_toArray, List.getElem_cons_zero, List.getElem_cons_succ, List.setIfInBounds_toArray, List.set_cons_zero, List.set_cons_succ]
            refine wpAnyH_take (i := 1) (oi := _) (v := ?_) rfl (by kernel_rfl) (by kernel_rfl) (by kernel_rfl) (fun _ _ _ h => h) (Or.inl ⟨by rfl, ?_⟩) (by assumption) ?_
            rotate_left
            · (intro w' hSw; (try dsimp only at hSw); go_simp; all_goals with_reducible rfl)
            try simp only [Act.put, List.getElem_toArray, List.getElem_cons_zero, List.getElem_cons_succ, List.setIfInBounds_toArray, List.set_cons_zero, List.set_cons_succ]
            refine wpAnyH_take (i := 2) (oi := _) (v := ?_) rfl (by kernel_rfl) (by kernel_rfl) (by kernel_rfl) (fun _ _ _ h => h) (Or.inl ⟨by rfl, ?_⟩) (by assumption) ?_
            rotate_left
            · (intro w' hSw; (try dsimp only at hSw); go_simp; all_goals with_reducible rfl)
            try simp only [Act.put, List.getElem_toArray, List.getElem_cons_zero, List.getElem_cons_succ, List.setIfInBounds_toArray, List.set_cons_zero, List.set_cons_succ]
            refine wpAnyH_ready (rs := [3]) (by kernel_rfl) (by simp) ?_
            refine AllReadyH.cons rfl (fun K hK => ?_) AllReadyH.nil
            go_simp
            go_at_call 18
            refine HL.out.mono ?_
            rintro e w2 ⟨rfl, hS2, hR⟩
            refine hK.out _ _ (by with_reducible exact hS2) (fun hHeld => ?_)
            clear hK K
            try simp only [Act.put, List.getElem_toArray, List.getElem_cons_zero, List.getElem_cons_succ, List.setIfInBounds_toArray, List.set_cons_zero, List.set_cons_succ]
            refine wpAnyH_take (i := 4) (oi := _) (v := ?_) rfl (by kernel_rfl) (by kernel_rfl) (by kernel_rfl) (fun _ _ _ h => h) (Or.inl ⟨by rfl, ?_⟩) (by assumption) ?_
            rotate_left
            · (intro w' hSw; (try dsimp only at hSw); go_simp; all_goals with_reducible rfl)
            try simp only [Act.put, List.getElem_toArray, List.getElem_cons_zero, List.getElem_cons_succ, List.setIfInBounds_toArray, List.set_cons_zero, List.set_cons_succ]
            refine wpAnyH_take (i := 5) (oi := _) (v := ?_) rfl (by kernel_rfl) (by kernel_rfl) (by kernel_rfl) (fun _ _ _ h => h) (Or.inl ⟨by rfl, ?_⟩) (by assumption) ?_
            rotate_left
            · (intro w' hSw; (try dsimp only at hSw); go_simp; all_goals with_reducible rfl)
            try simp only [Act.put, List.getElem_toArray, List.getElem_cons_zero, List.getElem_cons_succ, List.setIfInBounds_toArray, List.set_cons_zero, List.set_cons_succ]
            refine wpAnyH_take (i := 6) (oi := _) (v := ?_) rfl (by kernel_rfl) (by kernel_rfl) (by kernel_rfl) (fun _ _ _ h => h) (Or.inl ⟨by rfl, ?_⟩) (by assumption) ?_
            rotate_left
            · (intro w' hSw; (try dsimp only at hSw); go_simp; all_goals with_reducible rfl)
            try simp only [Act.put, List.getElem_toArray, List.getElem_cons_zero, List.getElem_cons_succ, List.setIfInBounds_toArray, List.set_cons_zero, List.set_cons_succ]
            refine wpAnyH_take (i := 7) (oi := _) (v := ?_) rfl (by kernel_rfl) (by kernel_rfl) (by kernel_rfl) (fun _ _ _ h => h) (Or.inl ⟨by rfl, ?_⟩) (by assumption) ?_
            rotate_left
            · (intro w' hSw; (try dsimp only at hSw); go_simp; all_goals with_reducible rfl)
            try simp only [Act.put, List.getElem_toArray, List.getElem_cons_zero, List.getElem_cons_succ, List.setIfInBounds_toArray, List.set_cons_zero, List.set_cons_succ]
            refine wpAnyH_take (i := 8) (oi := _) (v := ?_) rfl (by kernel_rfl) (by kernel_rfl) (by kernel_rfl) (fun _ _ _ h => h) (Or.inl ⟨by rfl, ?_⟩) (by assumption) ?_
            rotate_left
            · (intro w' hSw; (try dsimp only at hSw); go_simp; all_goals with_reducible rfl)
            try simp only [Act.put, List.getElem_toArray, List.getElem_cons_zero, List.getElem_cons_succ, List.setIfInBounds_toArray, List.set_cons_zero, List.set_cons_succ]
            refine wpAnyH_take (i := 9) (oi := _) (v := ?_) rfl (by kernel_rfl) (by kernel_rfl) (by kernel_rfl) (fun _ _ _ h => h) (Or.inl ⟨by rfl, ?_⟩) (by assumption) ?_
            rotate_left
            · (intro w' hSw; (try dsimp only at hSw); go_simp; all_goals with_reducible rfl)
            try simp only [Act.put, List.getElem_toArray, List.getElem_cons_zero, List.getElem_cons_succ, List.setIfInBounds_toArray, List.set_cons_zero, List.set_cons_succ]
            refine wpAnyH_take (i := 10) (oi := _) (v := ?_) rfl (by kernel_rfl) (by kernel_rfl) (by kernel_rfl) (fun _ _ _ h => h) (Or.inl ⟨by rfl, ?_⟩) (by assumption) ?_
            rotate_left
            · (intro w' hSw; (try dsimp only at hSw); go_simp; all_goals with_reducible rfl)
            try simp only [Act.put, List.getElem_toArray, List.getElem_cons_zero, List.getElem_cons_succ, List.setIfInBounds_toArray, List.set_cons_zero, List.set_cons_succ]
            refine wpAnyH_take (i := 11) (oi := _) (v := ?_) rfl (by kernel_rfl) (by kernel_rfl) (by kernel_rfl) (fun _ _ _ h => h) (Or.inl ⟨by rfl, ?_⟩) (by assumption) ?_
            rotate_left
            · (intro w' hSw; (try dsimp only at hSw); go_simp; all_goals with_reducible rfl)
            try simp only [Act.put, List.getElem_toArray, List.getElem_cons_zero, List.getElem_cons_succ, List.setIfInBounds_toArray, List.set_cons_zero, List.set_cons_succ]
            refine wpAnyH_take (i := 12) (oi := _) (v := ?_) rfl (by kernel_rfl) (by kernel_rfl) (by kernel_rfl) (fun _ _ _ h => h) (Or.inl ⟨by rfl, ?_⟩) (by assumption) ?_
            rotate_left
            · (intro w' hSw; (try dsimp only at hSw); go_simp; all_goals with_reducible rfl)
            try simp only [Act.put, List.getElem_toArray, List.getElem_cons_zero, List.getElem_cons_succ, List.setIfInBounds_toArray, List.set_cons_zero, List.set_cons_succ]
            refine wpAnyH_take (i := 13) (oi := _) (v := ?_) rfl (by kernel_rfl) (by kernel_rfl) (by kernel_rfl) (fun _ _ _ h => h) (Or.inl ⟨by rfl, ?_⟩) (by assumption) ?_
            rotate_left
            · (intro w' hSw; (try dsimp only at hSw); go_simp; all_goals with_reducible rfl)
            try simp only [Act.put, List.getElem_toArray, List.getElem_cons_zero, List.getElem_cons_succ, List.setIfInBounds_toArray, List.set_cons_zero, List.set_cons_succ]
            refine wpAnyH_take (i := 14) (oi := _) (v := ?_) rfl (by kernel_rfl) (by kernel_rfl) (by kernel_rfl) (fun _ _ _ h => h) (Or.inl ⟨by rfl, ?_⟩) (by assumption) ?_
            rotate_left
            · (intro w' hSw; (try dsimp only at hSw); go_simp; all_goals with_reducible rfl)
            try simp only [Act.put, List.getElem_toArray, List.getElem_cons_zero, List.getElem_cons_succ, List.setIfInBounds_toArray, List.set_cons_zero, List.set_cons_succ]
            refine wpAnyH_take (i := 15) (oi := _) (v := ?_) rfl (by kernel_rfl) (by kernel_rfl) (by kernel_rfl) (fun _ _ _ h => h) (Or.inl ⟨by rfl, ?_⟩) (by assumption) ?_
            rotate_left
            · (intro w' hSw; (try dsimp only at hSw); go_simp; all_goals with_reducible rfl)
            try simp only [Act.put, List.getElem_toArray, List.getElem_cons_zero, List.getElem_cons_succ, List.setIfInBounds_toArray, List.set_cons_zero, List.set_cons_succ]
            refine wpAnyH_take (i := 16) (oi := _) (v := ?_) rfl (by kernel_rfl) (by kernel_rfl) (by kernel_rfl) (fun _ _ _ h => h) (Or.inl ⟨by rfl, ?_⟩) (by assumption) ?_
            rotate_left
            · (intro w' hSw; (try dsimp only at hSw); go_simp; all_goals with_reducible rfl)
            try simp only [Act.put, List.getElem_toArray, List.getElem_cons_zero, List.getElem_cons_succ, List.setIfInBounds_toArray, List.set_cons_zero, List.set_cons_succ]
            refine wpAnyH_take (i := 17) (oi := _) (v := ?_) rfl (by kernel_rfl) (by kernel_rfl) (by kernel_rfl) (fun _ _ _ h => h) (Or.inl ⟨by rfl, ?_⟩) (by assumption) ?_
            rotate_left
            · (intro w' hSw; (try dsimp only at hSw); go_simp; all_goals with_reducible rfl)
            try simp only [Act.put, List.getElem_toArray, List.getElem_cons_zero, List.getElem_cons_succ, List.setIfInBounds_toArray, List.set_cons_zero, List.set_cons_succ]
            refine wpAnyH_take (i := 18) (oi := _) (v := ?_) rfl (by kernel_rfl) (by kernel_rfl) (by kernel_rfl) (fun _ _ _ h => h) (Or.inl ⟨by rfl, ?_⟩) (by assumption) ?_
            rotate_left
            · (intro w' hSw; (try dsimp only at hSw); go_simp; all_goals with_reducible rfl)
            try simp only [Act.put, List.getElem_toArray, List.getElem_cons_zero, List.getElem_cons_succ, List.setIfInBounds_toArray, List.set_cons_zero, List.set_cons_succ]
            refine wpAnyH_take (i := 19) (oi := _) (v := ?_) rfl (by kernel_rfl) (by kernel_rfl) (by kernel_rfl) (fun _ _ _ h => h) (Or.inl ⟨by rfl, ?_⟩) (by assumption) ?_
            rotate_left
            · (intro w' hSw; (try dsimp only at hSw); go_simp; all_goals with_reducible rfl)
            try simp only [Act.put, List.getElem_toArray, List.getElem_cons_zero, List.getElem_cons_succ, List.setIfInBounds_toArray, List.set_cons_zero, List.set_cons_succ]
            refine wpAnyH_take (i := 20) (oi := _) (v := ?_) rfl (by kernel_rfl) (by kernel_rfl) (by kernel_rfl) (fun _ _ _ h => h) (Or.inl ⟨by rfl, ?_⟩) (by assumption) ?_
            rotate_left
            · (intro w' hSw; (try dsimp only at hSw); go_simp; all_goals with_reducible rfl)
            try simp only [Act.put, List.getElem_toArray, List.getElem_cons_zero, List.getElem_cons_succ, List.setIfInBounds_toArray, List.set_cons_zero, List.set_cons_succ]
            refine wpAnyH_take (i := 21) (oi := _) (v := ?_) rfl (by kernel_rfl) (by kernel_rfl) (by kernel_rfl) (fun _ _ _ h => h) (Or.inl ⟨by rfl, ?_⟩) (by assumption) ?_
            rotate_left
            · (intro w' hSw; (try dsimp only at hSw); go_simp; all_goals with_reducible rfl)
            try simp only [Act.put, List.getElem_toArray, List.getElem_cons_zero, List.getElem_cons_succ, List.setIfInBounds_toArray, List.set_cons_zero, List.set_cons_succ]
            refine wpAnyH_take (i := 22) (oi := _) (v := ?_) rfl (by kernel_rfl) (by kernel_rfl) (by kernel_rfl) (fun _ _ _ h => h) (Or.inl ⟨by rfl, ?_⟩) (by assumption) ?_
            rotate_left
            · (intro w' hSw; (try dsimp only at hSw); go_simp; all_goals with_reducible rfl)
            try simp only [Act.put, List.getElem_toArray, List.getElem_cons_zero, List.getElem_cons_succ, List.setIfInBounds_toArray, List.set_cons_zero, List.set_cons_succ]
            refine wpAnyH_take (i := 23) (oi := _) (v := ?_) rfl (by kernel_rfl) (by kernel_rfl) (by kernel_rfl) (fun _ _ _ h => h) (Or.inl ⟨by rfl, ?_⟩) (by assumption) ?_
            rotate_left
            · (intro w' hSw; (try dsimp only at hSw); go_simp; all_goals with_reducible rfl)
            try simp only [Act.put, List.getElem_toArray, List.getElem_cons_zero, List.getElem_cons_succ, List.setIfInBounds_toArray, List.set_cons_zero, List.set_cons_succ]
            refine wpAnyH_take (i := 24) (oi := _) (v := ?_) rfl (by kernel_rfl) (by kernel_rfl) (by kernel_rfl) (fun _ _ _ h => h) (Or.inl ⟨by rfl, ?_⟩) (by assumption) ?_
            rotate_left
            · (intro w' hSw; (try dsimp only at hSw); go_simp; all_goals with_reducible rfl)
            try simp only [Act.put, List.getElem_toArray, List.getElem_cons_zero, List.getElem_cons_succ, List.setIfInBounds_toArray, List.set_cons_zero, List.set_cons_succ]
            refine wpAnyH_ready (rs := [25]) (by kernel_rfl) (by simp) ?_
            refine AllReadyH.cons rfl (fun K hK => ?_) AllReadyH.nil
            go_simp
            go_at_call 112
            refine hR.out.2.mono ?_
            rintro e w3 ⟨rfl, hS3, hB3⟩
            refine hK.out _ _ (by with_reducible exact hS3) (fun hHeld => ?_)
            clear hK K
            try simp only [Act.put, List.getElem_toArray, List.getElem_cons_zero, List.getElem_cons_succ, List.setIfInBounds_toArray, List.set_cons_zero, List.set_cons_succ]
            refine wpAnyH_take (i := 26) (oi := _) (v := ?_) rfl (by kernel_rfl) (by kernel_rfl) (by kernel_rfl) (fun _ _ _ h => h) (Or.inl ⟨by rfl, ?_⟩) (by assumption) ?_
            rotate_left
            · (intro w' hSw; (try dsimp only at hSw); go_simp; all_goals with_reducible rfl)
            try simp only [Act.put, List.getElem_toArray, List.getElem_cons_zero, List.getElem_cons_succ, List.setIfInBounds_toArray, List.set_cons_zero, List.set_cons_succ]
            refine wpAnyH_take (i := 27) (oi := _) (v := ?_) rfl (by kernel_rfl) (by kernel_rfl) (by kernel_rfl) (fun _ _ _ h => h) (Or.inl ⟨by rfl, ?_⟩) (by assumption) ?_
            rotate_left
            · (intro w' hSw; (try dsimp only at hSw); go_simp; all_goals with_reducible rfl)
            try simp only [Act.put, List.getElem_toArray, List.getElem_cons_zero, List.getElem_cons_succ, List.setIfInBounds_toArray, List.set_cons_zero, List.set_cons_succ]
            refine wpAnyH_done (by kernel_rfl) ?_ _
            go_wp2
            go_ret
            exact ⟨by rw [HR.out]; rfl, hB3.out⟩
          · have d4 : (at_ ≤ 1099511627776) = False := eq_false e4
            have HR : Hid (fr = false) := Lib.hid (by rw [HF.out, decide_eq_true HE.out, decide_eq_true e2, decide_eq_true e3, decide_eq_false e4]; rfl)
            clear e4
            refine wp_region_held_drew (S := fun w' => w'.cell? ⟨W.heap.size, 0, none⟩ = some (.int .i64 seq) ∧ w'.cell? ⟨W.heap.size, 1, none⟩ = some (.int .i64 at_) ∧ w'.cell? ⟨W.heap.size, 2, none⟩ = some (.slice a len cap)) (by kernel_rfl) (by with_reducible exact hS1) (fun hHeld => ?_)
            refine wpAnyH_take (i := 0) (oi := _) (v := ?_) rfl (by kernel_rfl) (by kernel_rfl) (by kernel_rfl) (fun _ _ _ h => h) (Or.inl ⟨by rfl, ?_⟩) (by assumption) ?_
            rotate_left
            · (intro w' hSw; (try dsimp only at hSw); go_simp; all_goals with_reducible rfl)
            try simp only [Act.put, List.getElem_toArray, List.getElem_cons_zero, List.getElem_cons_succ, List.setIfInBounds_toArray, List.set_cons_zero, List.set_cons_succ]
            refine wpAnyH_take (i := 1) (oi := _) (v := ?_) rfl (by kernel_rfl) (by kernel_rfl) (by kernel_rfl) (fun _ _ _ h => h) (Or.inl ⟨by rfl, ?_⟩) (by assumption) ?_
            rotate_left
            · (intro w' hSw; (try dsimp only at hSw); go_simp; all_goals with_reducible rfl)
            try simp only [Act.put, List.getElem_toArray, List.getElem_cons_zero, List.getElem_cons_succ, List.setIfInBounds_toArray, List.set_cons_zero, List.set_cons_succ]
            refine wpAnyH_take (i := 2) (oi := _) (v := ?_) rfl (by kernel_rfl) (by kernel_rfl) (by kernel_rfl) (fun _ _ _ h => h) (Or.inl ⟨by rfl, ?_⟩) (by assumption) ?_
            rotate_left
            · (intro w' hSw; (try dsimp only at hSw); go_simp; all_goals with_reducible rfl)
            try simp only [Act.put, List.getElem_toArray, List.getElem_cons_zero, List.getElem_cons_succ, List.setIfInBounds_toArray, List.set_cons_zero, List.set_cons_succ]
            refine wpAnyH_ready (rs := [3]) (by kernel_rfl) (by simp) ?_
            refine AllReadyH.cons rfl (fun K hK => ?_) AllReadyH.nil
            go_simp
            go_at_call 18
            refine HL.out.mono ?_
            rintro e w2 ⟨rfl, hS2, hR⟩
            refine hK.out _ _ (by with_reducible exact hS2) (fun hHeld => ?_)
            clear hK K
            try simp only [Act.put, List.getElem_toArray, List.getElem_cons_zero, List.getElem_cons_succ, List.setIfInBounds_toArray, List.set_cons_zero, List.set_cons_succ]
            refine wpAnyH_take (i := 4) (oi := _) (v := ?_) rfl (by kernel_rfl) (by kernel_rfl) (by kernel_rfl) (fun _ _ _ h => h) (Or.inl ⟨by rfl, ?_⟩) (by assumption) ?_
            rotate_left
            · (intro w' hSw; (try dsimp only at hSw); go_simp; all_goals with_reducible rfl)
            try simp only [Act.put, List.getElem_toArray, List.getElem_cons_zero, List.getElem_cons_succ, List.setIfInBounds_toArray, List.set_cons_zero, List.set_cons_succ]
            refine wpAnyH_take (i := 5) (oi := _) (v := ?_) rfl (by kernel_rfl) (by kernel_rfl) (by kernel_rfl) (fun _ _ _ h => h) (Or.inl ⟨by rfl, ?_⟩) (by assumption) ?_
            rotate_left
            · (intro w' hSw; (try dsimp only at hSw); go_simp; all_goals with_reducible rfl)
            try simp only [Act.put, List.getElem_toArray, List.getElem_cons_zero, List.getElem_cons_succ, List.setIfInBounds_toArray, List.set_cons_zero, List.set_cons_succ]
            refine wpAnyH_take (i := 6) (oi := _) (v := ?_) rfl (by kernel_rfl) (by kernel_rfl) (by kernel_rfl) (fun _ _ _ h => h) (Or.inl ⟨by rfl, ?_⟩) (by assumption) ?_
            rotate_left
            · (intro w' hSw; (try dsimp only at hSw); go_simp; all_goals with_reducible rfl)
            try simp only [Act.put, List.getElem_toArray, List.getElem_cons_zero, List.getElem_cons_succ, List.setIfInBounds_toArray, List.set_cons_zero, List.set_cons_succ]
            refine wpAnyH_take (i := 7) (oi := _) (v := ?_) rfl (by kernel_rfl) (by kernel_rfl) (by kernel_rfl) (fun _ _ _ h => h) (Or.inl ⟨by rfl, ?_⟩) (by assumption) ?_
            rotate_left
            · (intro w' hSw; (try dsimp only at hSw); go_simp; all_goals with_reducible rfl)
            try simp only [Act.put, List.getElem_toArray, List.getElem_cons_zero, List.getElem_cons_succ, List.setIfInBounds_toArray, List.set_cons_zero, List.set_cons_succ]
            refine wpAnyH_take (i := 8) (oi := _) (v := ?_) rfl (by kernel_rfl) (by kernel_rfl) (by kernel_rfl) (fun _ _ _ h => h) (Or.inl ⟨by rfl, ?_⟩) (by assumption) ?_
            rotate_left
            · (intro w' hSw; (try dsimp only at hSw); go_simp; all_goals with_reducible rfl)
            try simp only [Act.put, List.getElem_toArray, List.getElem_cons_zero, List.getElem_cons_succ, List.setIfInBounds_toArray, List.set_cons_zero, List.set_cons_succ]
            refine wpAnyH_take (i := 9) (oi := _) (v := ?_) rfl (by kernel_rfl) (by kernel_rfl) (by kernel_rfl) (fun _ _ _ h => h) (Or.inl ⟨by rfl, ?_⟩) (by assumption) ?_
            rotate_left
            · (intro w' hSw; (try dsimp only at hSw); go_simp; all_goals with_reducible rfl)
            try simp only [Act.put, List.getElem_toArray, List.getElem_cons_zero, List.getElem_cons_succ, List.setIfInBounds_toArray, List.set_cons_zero, List.set_cons_succ]
            refine wpAnyH_take (i := 10) (oi := _) (v := ?_) rfl (by kernel_rfl) (by kernel_rfl) (by kernel_rfl) (fun _ _ _ h => h) (Or.inl ⟨by rfl, ?_⟩) (by assumption) ?_
            rotate_left
            · (intro w' hSw; (try dsimp only at hSw); go_simp; all_goals with_reducible rfl)
            try simp only [Act.put, List.getElem_toArray, List.getElem_cons_zero, List.getElem_cons_succ, List.setIfInBounds_toArray, List.set_cons_zero, List.set_cons_succ]
            refine wpAnyH_take (i := 11) (oi := _) (v := ?_) rfl (by kernel_rfl) (by kernel_rfl) (by kernel_rfl) (fun _ _ _ h => h) (Or.inl ⟨by rfl, ?_⟩) (by assumption) ?_
            rotate_left
            · (intro w' hSw; (try dsimp only at hSw); go_simp; all_goals with_reducible rfl)
            try simp only [Act.put, List.getElem_toArray, List.getElem_cons_zero, List.getElem_cons_succ, List.setIfInBounds_toArray, List.set_cons_zero, List.set_cons_succ]
            refine wpAnyH_take (i := 12) (oi := _) (v := ?_) rfl (by kernel_rfl) (by kernel_rfl) (by kernel_rfl) (fun _ _ _ h => h) (Or.inl ⟨by rfl, ?_⟩) (by assumption) ?_
            rotate_left
            · (intro w' hSw; (try dsimp only at hSw); go_simp; all_goals with_reducible rfl)
            try simp only [Act.put, List.getElem_toArray, List.getElem_cons_zero, List.getElem_cons_succ, List.setIfInBounds_toArray, List.set_cons_zero, List.set_cons_succ]
            refine wpAnyH_take (i := 13) (oi := _) (v := ?_) rfl (by kernel_rfl) (by kernel_rfl) (by kernel_rfl) (fun _ _ _ h => h) (Or.inl ⟨by rfl, ?_⟩) (by assumption) ?_
            rotate_left
            · (intro w' hSw; (try dsimp only at hSw); go_simp; all_goals with_reducible rfl)
            try simp only [Act.put, List.getElem_toArray, List.getElem_cons_zero, List.getElem_cons_succ, List.setIfInBounds_toArray, List.set_cons_zero, List.set_cons_succ]
            refine wpAnyH_take (i := 14) (oi := _) (v := ?_) rfl (by kernel_rfl) (by kernel_rfl) (by kernel_rfl) (fun _ _ _ h => h) (Or.inl ⟨by rfl, ?_⟩) (by assumption) ?_
            rotate_left
            · (intro w' hSw; (try dsimp only at hSw); go_simp; all_goals with_reducible rfl)
            try simp only [Act.put, List.getElem_toArray, List.getElem_cons_zero, List.getElem_cons_succ, List.setIfInBounds_toArray, List.set_cons_zero, List.set_cons_succ]
            refine wpAnyH_take (i := 15) (oi := _) (v := ?_) rfl (by kernel_rfl) (by kernel_rfl) (by kernel_rfl) (fun _ _ _ h => h) (Or.inl ⟨by rfl, ?_⟩) (by assumption) ?_
            rotate_left
            · (intro w' hSw; (try dsimp only at hSw); go_simp; all_goals with_reducible rfl)
            try simp only [Act.put, List.getElem_toArray, List.getElem_cons_zero, List.getElem_cons_succ, List.setIfInBounds_toArray, List.set_cons_zero, List.set_cons_succ]
            refine wpAnyH_take (i := 16) (oi := _) (v := ?_) rfl (by kernel_rfl) (by kernel_rfl) (by kernel_rfl) (fun _ _ _ h => h) (Or.inl ⟨by rfl, ?_⟩) (by assumption) ?_
            rotate_left
            · (intro w' hSw; (try dsimp only at hSw); go_simp; all_goals with_reducible rfl)
            try simp only [Act.put, List.getElem_toArray, List.getElem_cons_zero, List.getElem_cons_succ, List.setIfInBounds_toArray, List.set_cons_zero, List.set_cons_succ]
            refine wpAnyH_take (i := 17) (oi := _) (v := ?_) rfl (by kernel_rfl) (by kernel_rfl) (by kernel_rfl) (fun _ _ _ h => h) (Or.inl ⟨by rfl, ?_⟩) (by assumption) ?_
            rotate_left
            · (intro w' hSw; (try dsimp only at hSw); go_simp; all_goals with_reducible rfl)
            try simp only [Act.put, List.getElem_toArray, List.getElem_cons_zero, List.getElem_cons_succ, List.setIfInBounds_toArray, List.set_cons_zero, List.set_cons_succ]
            refine wpAnyH_take (i := 18) (oi := _) (v := ?_) rfl (by kernel_rfl) (by kernel_rfl) (by kernel_rfl) (fun _ _ _ h => h) (Or.inl ⟨by rfl, ?_⟩) (by assumption) ?_
            rotate_left
            · (intro w' hSw; (try dsimp only at hSw); go_simp; all_goals with_reducible rfl)
            try simp only [Act.put, List.getElem_toArray, List.getElem_cons_zero, List.getElem_cons_succ, List.setIfInBounds_toArray, List.set_cons_zero, List.set_cons_succ]
            refine wpAnyH_take (i := 19) (oi := _) (v := ?_) rfl (by kernel_rfl) (by kernel_rfl) (by kernel_rfl) (fun _ _ _ h => h) (Or.inl ⟨by rfl, ?_⟩) (by assumption) ?_
            rotate_left
            · (intro w' hSw; (try dsimp only at hSw); go_simp; all_goals with_reducible rfl)
            try simp only [Act.put, List.getElem_toArray, List.getElem_cons_zero, List.getElem_cons_succ, List.setIfInBounds_toArray, List.set_cons_zero, List.set_cons_succ]
            refine wpAnyH_take (i := 20) (oi := _) (v := ?_) rfl (by kernel_rfl) (by kernel_rfl) (by kernel_rfl) (fun _ _ _ h => h) (Or.inl ⟨by rfl, ?_⟩) (by assumption) ?_
            rotate_left
            · (intro w' hSw; (try dsimp only at hSw); go_simp; all_goals with_reducible rfl)
            try simp only [Act.put, List.getElem_toArray, List.getElem_cons_zero, List.getElem_cons_succ, List.setIfInBounds_toArray, List.set_cons_zero, List.set_cons_succ]
            refine wpAnyH_take (i := 21) (oi := _) (v := ?_) rfl (by kernel_rfl) (by kernel_rfl) (by kernel_rfl) (fun _ _ _ h => h) (Or.inl ⟨by rfl, ?_⟩) (by assumption) ?_
            rotate_left
            · (intro w' hSw; (try dsimp only at hSw); go_simp; all_goals with_reducible rfl)
            try simp only [Act.put, List.getElem_toArray, List.getElem_cons_zero, List.getElem_cons_succ, List.setIfInBounds_toArray, List.set_cons_zero, List.set_cons_succ]
            refine wpAnyH_take (i := 22) (oi := _) (v := ?_) rfl (by kernel_rfl) (by kernel_rfl) (by kernel_rfl) (fun _ _ _ h => h) (Or.inl ⟨by rfl, ?_⟩) (by assumption) ?_
            rotate_left
            · (intro w' hSw; (try dsimp only at hSw); go_simp; all_goals with_reducible rfl)
            try simp only [Act.put, List.getElem_toArray, List.getElem_cons_zero, List.getElem_cons_succ, List.setIfInBounds_toArray, List.set_cons_zero, List.set_cons_succ]
            refine wpAnyH_take (i := 23) (oi := _) (v := undef) rfl (by kernel_rfl) (by kernel_rfl) (by kernel_rfl) (fun _ _ _ h => h) (Or.inr ⟨by rfl, rfl⟩) (by assumption) ?_
            try simp only [Act.put, List.getElem_toArray, List.getElem_cons_zero, List.getElem_cons_succ, List.setIfInBounds_toArray, List.set_cons_zero, List.set_cons_succ]
            refine wpAnyH_take (i := 24) (oi := _) (v := undef) rfl (by kernel_rfl) (by kernel_rfl) (by kernel_rfl) (fun _ _ _ h => h) (Or.inr ⟨by rfl, rfl⟩) (by assumption) ?_
            try simp only [Act.put, List.getElem_toArray, List.getElem_cons_zero, List.getElem_cons_succ, List.setIfInBounds_toArray, List.set_cons_zero, List.set_cons_succ]
            refine wpAnyH_ready (rs := [25]) (by kernel_rfl) (by simp) ?_
            refine AllReadyH.cons rfl (fun K hK => ?_) AllReadyH.nil
            go_simp
            refine hK.out _ _ (by with_reducible exact hS2) (fun hHeld => ?_)
            clear hK K
            try simp only [Act.put, List.getElem_toArray, List.getElem_cons_zero, List.getElem_cons_succ, List.setIfInBounds_toArray, List.set_cons_zero, List.set_cons_succ]
            refine wpAnyH_take (i := 26) (oi := _) (v := ?_) rfl (by kernel_rfl) (by kernel_rfl) (by kernel_rfl) (fun _ _ _ h => h) (Or.inl ⟨by rfl, ?_⟩) (by assumption) ?_
            rotate_left
            · (intro w' hSw; (try dsimp only at hSw); go_simp; all_goals with_reducible rfl)
            try simp only [Act.put, List.getElem_toArray, List.getElem_cons_zero, List.getElem_cons_succ, List.setIfInBounds_toArray, List.set_cons_zero, List.set_cons_succ]
            refine wpAnyH_take (i := 27) (oi := _) (v := ?_) rfl (by kernel_rfl) (by kernel_rfl) (by kernel_rfl) (fun _ _ _ h => h) (Or.inl ⟨by rfl, ?_⟩) (by assumption) ?_
            rotate_left
            · (intro w' hSw; (try dsimp only at hSw); go_simp; all_goals with_reducible rfl)
            try simp only [Act.put, List.getElem_toArray, List.getElem_cons_zero, List.getElem_cons_succ, List.setIfInBounds_toArray, List.set_cons_zero, List.set_cons_succ]
            refine wpAnyH_done (by kernel_rfl) ?_ _
            go_wp2
            go_ret
            exact ⟨by rw [HR.out]; rfl, hR.out.1⟩
        · have d3 : ((0 : Int) ≤ at_) = False := eq_false e3
          have HR : Hid (fr = false) := Lib.hid (by rw [HF.out, decide_eq_true HE.out, decide_eq_true e2, decide_eq_false e3]; rfl)
          clear e3
          refine wp_region_held_drew (S := fun w' => w'.cell? ⟨W.heap.size, 0, none⟩ = some (.int .i64 seq) ∧ w'.cell? ⟨W.heap.size, 1, none⟩ = some (.int .i64 at_) ∧ w'.cell? ⟨W.heap.size, 2, none⟩ = some (.slice a len cap)) (by kernel_rfl) (by with_reducible exact hS1) (fun hHeld => ?_)
          refine wpAnyH_take (i := 0) (oi := _) (v := ?_) rfl (by kernel_rfl) (by kernel_rfl) (by kernel_rfl) (fun _ _ _ h => h) (Or.inl ⟨by rfl, ?_⟩) (by assumption) ?_
          rotate_left
          · (intro w' hSw; (try dsimp only at hSw); go_simp; all_goals with_reducible rfl)
          try simp only [Act.put, List.getElem_toArray, List.getElem_cons_zero, List.getElem_cons_succ, List.setIfInBounds_toArray, List.set_cons_zero, List.set_cons_succ]
          refine wpAnyH_take (i := 1) (oi := _) (v := ?_) rfl (by kernel_rfl) (by kernel_rfl) (by kernel_rfl) (fun _ _ _ h => h) (Or.inl ⟨by rfl, ?_⟩) (by assumption) ?_
          rotate_left
          · (intro w' hSw; (try dsimp only at hSw); go_simp; all_goals with_reducible rfl)
          try simp only [Act.put, List.getElem_toArray, List.getElem_cons_zero, List.getElem_cons_succ, List.setIfInBounds_toArray, List.set_cons_zero, List.set_cons_succ]
          refine wpAnyH_take (i := 2) (oi := _) (v := ?_) rfl (by kernel_rfl) (by kernel_rfl) (by kernel_rfl) (fun _ _ _ h => h) (Or.inl ⟨by rfl, ?_⟩) (by assumption) ?_
          rotate_left
          · (intro w' hSw; (try dsimp only at hSw); go_simp; all_goals with_reducible rfl)
          try simp only [Act.put, List.getElem_toArray, List.getElem_cons_zero, List.getElem_cons_succ, List.setIfInBounds_toArray, List.set_cons_zero, List.set_cons_succ]
          refine wpAnyH_ready (rs := [3]) (by kernel_rfl) (by simp) ?_
          refine AllReadyH.cons rfl (fun K hK => ?_) AllReadyH.nil
          go_simp
          go_at_call 18
          refine HL.out.mono ?_
          rintro e w2 ⟨rfl, hS2, hR⟩
          refine hK.out _ _ (by with_reducible exact hS2) (fun hHeld => ?_)
          clear hK K
          try simp only [Act.put, List.getElem_toArray, List.getElem_cons_zero, List.getElem_cons_succ, List.setIfInBounds_toArray, List.set_cons_zero, List.set_cons_succ]
          refine wpAnyH_take (i := 4) (oi := _) (v := ?_) rfl (by kernel_rfl) (by kernel_rfl) (by kernel_rfl) (fun _ _ _ h => h) (Or.inl ⟨by rfl, ?_⟩) (by assumption) ?_
          rotate_left
          · (intro w' hSw; (try dsimp only at hSw); go_simp; all_goals with_reducible rfl)
          try simp only [Act.put, List.getElem_toArray, List.getElem_cons_zero, List.getElem_cons_succ, List.setIfInBounds_toArray, List.set_cons_zero, List.set_cons_succ]
          refine wpAnyH_take (i := 5) (oi := _) (v := ?_) rfl (by kernel_rfl) (by kernel_rfl) (by kernel_rfl) (fun _ _ _ h => h) (Or.inl ⟨by rfl, ?_⟩) (by assumption) ?_
          rotate_left
          · (intro w' hSw; (try dsimp only at hSw); go_simp; all_goals with_reducible rfl)
          try simp only [Act.put, List.getElem_toArray, List.getElem_cons_zero, List.getElem_cons_succ, List.setIfInBounds_toArray, List.set_cons_zero, List.set_cons_succ]
          refine wpAnyH_take (i := 6) (oi := _) (v := ?_) rfl (by kernel_rfl) (by kernel_rfl) (by kernel_rfl) (fun _ _ _ h => h) (Or.inl ⟨by rfl, ?_⟩) (by assumption) ?_
          rotate_left
          · (intro w' hSw; (try dsimp only at hSw); go_simp; all_goals with_reducible rfl)
          try simp only [Act.put, List.getElem_toArray, List.getElem_cons_zero, List.getElem_cons_succ, List.setIfInBounds_toArray, List.set_cons_zero, List.set_cons_succ]
          refine wpAnyH_take (i := 7) (oi := _) (v := ?_) rfl (by kernel_rfl) (by kernel_rfl) (by kernel_rfl) (fun _ _ _ h => h) (Or.inl ⟨by rfl, ?_⟩) (by assumption) ?_
          rotate_left
          · (intro w' hSw; (try dsimp only at hSw); go_simp; all_goals with_reducible rfl)
          try simp only [Act.put, List.getElem_toArray, List.getElem_cons_zero, List.getElem_cons_succ, List.setIfInBounds_toArray, List.set_cons_zero, List.set_cons_succ]
          refine wpAnyH_take (i := 8) (oi := _) (v := ?_) rfl (by kernel_rfl) (by kernel_rfl) (by kernel_rfl) (fun _ _ _ h => h) (Or.inl ⟨by rfl, ?_⟩) (by assumption) ?_
          rotate_left
          · (intro w' hSw; (try dsimp only at hSw); go_simp; all_goals with_reducible rfl)
          try simp only [Act.put, List.getElem_toArray, List.getElem_cons_zero, List.getElem_cons_succ, List.setIfInBounds_toArray, List.set_cons_zero, List.set_cons_succ]
          refine wpAnyH_take (i := 9) (oi := _) (v := ?_) rfl (by kernel_rfl) (by kernel_rfl) (by kernel_rfl) (fun _ _ _ h => h) (Or.inl ⟨by rfl, ?_⟩) (by assumption) ?_
          rotate_left
          · (intro w' hSw; (try dsimp only at hSw); go_simp; all_goals with_reducible rfl)
          try simp only [Act.put, List.getElem_toArray, List.getElem_cons_zero, List.getElem_cons_succ, List.setIfInBounds_toArray, List.set_cons_zero, List.set_cons_succ]
          refine wpAnyH_take (i := 10) (oi := _) (v := ?_) rfl (by kernel_rfl) (by kernel_rfl) (by kernel_rfl) (fun _ _ _ h => h) (Or.inl ⟨by rfl, ?_⟩) (by assumption) ?_
          rotate_left
          · (intro w' hSw; (try dsimp only at hSw); go_simp; all_goals with_reducible rfl)
          try simp only [Act.put, List.getElem_toArray, List.getElem_cons_zero, List.getElem_cons_succ, List.setIfInBounds_toArray, List.set_cons_zero, List.set_cons_succ]
          refine wpAnyH_take (i := 11) (oi := _) (v := ?_) rfl (by kernel_rfl) (by kernel_rfl) (by kernel_rfl) (fun _ _ _ h => h) (Or.inl ⟨by rfl, ?_⟩) (by assumption) ?_
          rotate_left
          · (intro w' hSw; (try dsimp only at hSw); go_simp; all_goals with_reducible rfl)
          try simp only [Act.put, List.getElem_toArray, List.getElem_cons_zero, List.getElem_cons_succ, List.setIfInBounds_toArray, List.set_cons_zero, List.set_cons_succ]
          refine wpAnyH_take (i := 12) (oi := _) (v := ?_) rfl (by kernel_rfl) (by kernel_rfl) (by kernel_rfl) (fun _ _ _ h => h) (Or.inl ⟨by rfl, ?_⟩) (by assumption) ?_
          rotate_left
          · (intro w' hSw; (try dsimp only at hSw); go_simp; all_goals with_reducible rfl)
          try simp only [Act.put, List.getElem_toArray, List.getElem_cons_zero, List.getElem_cons_succ, List.setIfInBounds_toArray, List.set_cons_zero, List.set_cons_succ]
          refine wpAnyH_take (i := 13) (oi := _) (v := ?_) rfl (by kernel_rfl) (by kernel_rfl) (by kernel_rfl) (fun _ _ _ h => h) (Or.inl ⟨by rfl, ?_⟩) (by assumption) ?_
          rotate_left
          · (intro w' hSw; (try dsimp only at hSw); go_simp; all_goals with_reducible rfl)
          try simp only [Act.put, List.getElem_toArray, List.getElem_cons_zero, List.getElem_cons_succ, List.setIfInBounds_toArray, List.set_cons_zero, List.set_cons_succ]
          refine wpAnyH_take (i := 14) (oi := _) (v := ?_) rfl (by kernel_rfl) (by kernel_rfl) (by kernel_rfl) (fun _ _ _ h => h) (Or.inl ⟨by rfl, ?_⟩) (by assumption) ?_
          rotate_left
          · (intro w' hSw; (try dsimp only at hSw); go_simp; all_goals with_reducible rfl)
          try simp only [Act.put, List.getElem_toArray, List.getElem_cons_zero, List.getElem_cons_succ, List.setIfInBounds_toArray, List.set_cons_zero, List.set_cons_succ]
          refine wpAnyH_take (i := 15) (oi := _) (v := ?_) rfl (by kernel_rfl) (by kernel_rfl) (by kernel_rfl) (fun _ _ _ h => h) (Or.inl ⟨by rfl, ?_⟩) (by assumption) ?_
          rotate_left
          · (intro w' hSw; (try dsimp only at hSw); go_simp; all_goals with_reducible rfl)
          try simp only [Act.put, List.getElem_toArray, List.getElem_cons_zero, List.getElem_cons_succ, List.setIfInBounds_toArray, List.set_cons_zero, List.set_cons_succ]
          refine wpAnyH_take (i := 16) (oi := _) (v := ?_) rfl (by kernel_rfl) (by kernel_rfl) (by kernel_rfl) (fun _ _ _ h => h) (Or.inl ⟨by rfl, ?_⟩) (by assumption) ?_
          rotate_left
          · (intro w' hSw; (try dsimp only at hSw); go_simp; all_goals with_reducible rfl)
          try simp only [Act.put, List.getElem_toArray, List.getElem_cons_zero, List.getElem_cons_succ, List.setIfInBounds_toArray, List.set_cons_zero, List.set_cons_succ]
          refine wpAnyH_take (i := 17) (oi := _) (v := ?_) rfl (by kernel_rfl) (by kernel_rfl) (by kernel_rfl) (fun _ _ _ h => h) (Or.inl ⟨by rfl, ?_⟩) (by assumption) ?_
          rotate_left
          · (intro w' hSw; (try dsimp only at hSw); go_simp; all_goals with_reducible rfl)
          try simp only [Act.put, List.getElem_toArray, List.getElem_cons_zero, List.getElem_cons_succ, List.setIfInBounds_toArray, List.set_cons_zero, List.set_cons_succ]
          refine wpAnyH_take (i := 18) (oi := _) (v := undef) rfl (by kernel_rfl) (by kernel_rfl) (by kernel_rfl) (fun _ _ _ h => h) (Or.inr ⟨by rfl, rfl⟩) (by assumption) ?_
          try simp only [Act.put, List.getElem_toArray, List.getElem_cons_zero, List.getElem_cons_succ, List.setIfInBounds_toArray, List.set_cons_zero, List.set_cons_succ]
          refine wpAnyH_take (i := 19) (oi := _) (v := undef) rfl (by kernel_rfl) (by kernel_rfl) (by kernel_rfl) (fun _ _ _ h => h) (Or.inr ⟨by rfl, rfl⟩) (by assumption) ?_
          try simp only [Act.put, List.getElem_toArray, List.getElem_cons_zero, List.getElem_cons_succ, List.setIfInBounds_toArray, List.set_cons_zero, List.set_cons_succ]
          refine wpAnyH_take (i := 20) (oi := _) (v := undef) rfl (by kernel_rfl) (by kernel_rfl) (by kernel_rfl) (fun _ _ _ h => h) (Or.inr ⟨by rfl, rfl⟩) (by assumption) ?_
          try simp only [Act.put, List.getElem_toArray, List.getElem_cons_zero, List.getElem_cons_succ, List.setIfInBounds_toArray, List.set_cons_zero, List.set_cons_succ]
          refine wpAnyH_take (i := 21) (oi := _) (v := ?_) rfl (by kernel_rfl) (by kernel_rfl) (by kernel_rfl) (fun _ _ _ h => h) (Or.inl ⟨by rfl, ?_⟩) (by assumption) ?_
          rotate_left
          · (intro w' hSw; (try dsimp only at hSw); go_simp; all_goals with_reducible rfl)
          try simp only [Act.put, List.getElem_toArray, List.getElem_cons_zero, List.getElem_cons_succ, List.setIfInBounds_toArray, List.set_cons_zero, List.set_cons_succ]
          refine wpAnyH_take (i := 22) (oi := _) (v := ?_) rfl (by kernel_rfl) (by kernel_rfl) (by kernel_rfl) (fun _ _ _ h => h) (Or.inl ⟨by rfl, ?_⟩) (by assumption) ?_
          rotate_left
          · (intro w' hSw; (try dsimp only at hSw); go_simp; all_goals with_reducible rfl)
          try simp only [Act.put, List.getElem_toArray, List.getElem_cons_zero, List.getElem_cons_succ, List.setIfInBounds_toArray, List.set_cons_zero, List.set_cons_succ]
          refine wpAnyH_take (i := 23) (oi := _) (v := undef) rfl (by kernel_rfl) (by kernel_rfl) (by kernel_rfl) (fun _ _ _ h => h) (Or.inr ⟨by rfl, rfl⟩) (by assumption) ?_
          try simp only [Act.put, List.getElem_toArray, List.getElem_cons_zero, List.getElem_cons_succ, List.setIfInBounds_toArray, List.set_cons_zero, List.set_cons_succ]
          refine wpAnyH_take (i := 24) (oi := _) (v := undef) rfl (by kernel_rfl) (by kernel_rfl) (by kernel_rfl) (fun _ _ _ h => h) (Or.inr ⟨by rfl, rfl⟩) (by assumption) ?_
          try simp only [Act.put, List.getElem_toArray, List.getElem_cons_zero, List.getElem_cons_succ, List.setIfInBounds_toArray, List.set_cons_zero, List.set_cons_succ]
          refine wpAnyH_ready (rs := [25]) (by kernel_rfl) (by simp) ?_
          refine AllReadyH.cons rfl (fun K hK => ?_) AllReadyH.nil
          go_simp
          refine hK.out _ _ (by with_reducible exact hS2) (fun hHeld => ?_)
          clear hK K
          try simp only [Act.put, List.getElem_toArray, List.getElem_cons_zero, List.getElem_cons_succ, List.setIfInBounds_toArray, List.set_cons_zero, List.set_cons_succ]
          refine wpAnyH_take (i := 26) (oi := _) (v := ?_) rfl (by kernel_rfl) (by kernel_rfl) (by kernel_rfl) (fun _ _ _ h => h) (Or.inl ⟨by rfl, ?_⟩) (by assumption) ?_
          rotate_left
          · (intro w' hSw; (try dsimp only at hSw); go_simp; all_goals with_reducible rfl)
          try simp only [Act.put, List.getElem_toArray, List.getElem_cons_zero, List.getElem_cons_succ, List.setIfInBounds_toArray, List.set_cons_zero, List.set_cons_succ]
          refine wpAnyH_take (i := 27) (oi := _) (v := ?_) rfl (by kernel_rfl) (by kernel_rfl) (by kernel_rfl) (fun _ _ _ h => h) (Or.inl ⟨by rfl, ?_⟩) (by assumption) ?_
          rotate_left
          · (intro w' hSw; (try dsimp only at hSw); go_simp; all_goals with_reducible rfl)
          try simp only [Act.put, List.getElem_toArray, List.getElem_cons_zero, List.getElem_cons_succ, List.setIfInBounds_toArray, List.set_cons_zero, List.set_cons_succ]
          refine wpAnyH_done (by kernel_rfl) ?_ _
          go_wp2
          go_ret
          exact ⟨by rw [HR.out]; rfl, hR.out.1⟩
      · have d2 : (seq ≤ 1099511627776) = False := eq_false e2
        have HR : Hid (fr = false) := Lib.hid (by rw [HF.out, decide_eq_true HE.out, decide_eq_false e2]; rfl)
        clear e2
        refine wp_region_held_drew (S := fun w' => w'.cell? ⟨W.heap.size, 0, none⟩ = some (.int .i64 seq) ∧ w'.cell? ⟨W.heap.size, 1, none⟩ = some (.int .i64 at_) ∧ w'.cell? ⟨W.heap.size, 2, none⟩ = some (.slice a len cap)) (by kernel_rfl) (by with_reducible exact hS1) (fun hHeld => ?_)
        refine wpAnyH_take (i := 0) (oi := _) (v := ?_) rfl (by kernel_rfl) (by kernel_rfl) (by kernel_rfl) (fun _ _ _ h => h) (Or.inl ⟨by rfl, ?_⟩) (by assumption) ?_
        rotate_left
        · (intro w' hSw; (try dsimp only at hSw); go_simp; all_goals with_reducible rfl)
        try simp only [Act.put, List.getElem_toArray, List.getElem_cons_zero, List.getElem_cons_succ, List.setIfInBounds_toArray, List.set_cons_zero, List.set_cons_succ]
        refine wpAnyH_take (i := 1) (oi := _) (v := ?_) rfl (by kernel_rfl) (by kernel_rfl) (by kernel_rfl) (fun _ _ _ h => h) (Or.inl ⟨by rfl, ?_⟩) (by assumption) ?_
        rotate_left
        · (intro w' hSw; (try dsimp only at hSw); go_simp; all_goals with_reducible rfl)
        try simp only [Act.put, List.getElem_toArray, List.getElem_cons_zero, List.getElem_cons_succ, List.setIfInBounds_toArray, List.set_cons_zero, List.set_cons_succ]
        refine wpAnyH_take (i := 2) (oi := _) (v := ?_) rfl (by kernel_rfl) (by kernel_rfl) (by kernel_rfl) (fun _ _ _ h => h) (Or.inl ⟨by rfl, ?_⟩) (by assumption) ?_
        rotate_left
        · (intro w' hSw; (try dsimp only at hSw); go_simp; all_goals with_reducible rfl)
        try simp only [Act.put, List.getElem_toArray, List.getElem_cons_zero, List.getElem_cons_succ, List.setIfInBounds_toArray, List.set_cons_zero, List.set_cons_succ]
        refine wpAnyH_ready (rs := [3]) (by kernel_rfl) (by simp) ?_
        refine AllReadyH.cons rfl (fun K hK => ?_) AllReadyH.nil
        go_simp
        go_at_call 18
        refine HL.out.mono ?_
        rintro e w2 ⟨rfl, hS2, hR⟩
        refine hK.out _ _ (by with_reducible exact hS2) (fun hHeld => ?_)
        clear hK K
        try simp only [Act.put, List.getElem_toArray, List.getElem_cons_zero, List.getElem_cons_succ, List.setIfInBounds_toArray, List.set_cons_zero, List.set_cons_succ]
        refine wpAnyH_take (i := 4) (oi := _) (v := ?_) rfl (by kernel_rfl) (by kernel_rfl) (by kernel_rfl) (fun _ _ _ h => h) (Or.inl ⟨by rfl, ?_⟩) (by assumption) ?_
        rotate_left
        · (intro w' hSw; (try dsimp only at hSw); go_simp; all_goals with_reducible rfl)
        try simp only [Act.put, List.getElem_toArray, List.getElem_cons_zero, List.getElem_cons_succ, List.setIfInBounds_toArray, List.set_cons_zero, List.set_cons_succ]
        refine wpAnyH_take (i := 5) (oi := _) (v := ?_) rfl (by kernel_rfl) (by kernel_rfl) (by kernel_rfl) (fun _ _ _ h => h) (Or.inl ⟨by rfl, ?_⟩) (by assumption) ?_
        rotate_left
        · (intro w' hSw; (try dsimp only at hSw); go_simp; all_goals with_reducible rfl)
        try simp only [Act.put, List.getElem_toArray, List.getElem_cons_zero, List.getElem_cons_succ, List.setIfInBounds_toArray, List.set_cons_zero, List.set_cons_succ]
        refine wpAnyH_take (i := 6) (oi := _) (v := ?_) rfl (by kernel_rfl) (by kernel_rfl) (by kernel_rfl) (fun _ _ _ h => h) (Or.inl ⟨by rfl, ?_⟩) (by assumption) ?_
        rotate_left
        · (intro w' hSw; (try dsimp only at hSw); go_simp; all_goals with_reducible rfl)
        try simp only [Act.put, List.getElem_toArray, List.getElem_cons_zero, List.getElem_cons_succ, List.setIfInBounds_toArray, List.set_cons_zero, List.set_cons_succ]
        refine wpAnyH_take (i := 7) (oi := _) (v := ?_) rfl (by kernel_rfl) (by kernel_rfl) (by kernel_rfl) (fun _ _ _ h => h) (Or.inl ⟨by rfl, ?_⟩) (by assumption) ?_
        rotate_left
        · (intro w' hSw; (try dsimp only at hSw); go_simp; all_goals with_reducible rfl)
        try simp only [Act.put, List.getElem_toArray, List.getElem_cons_zero, List.getElem_cons_succ, List.setIfInBounds_toArray, List.set_cons_zero, List.set_cons_succ]
        refine wpAnyH_take (i := 8) (oi := _) (v := ?_) rfl (by kernel_rfl) (by kernel_rfl) (by kernel_rfl) (fun _ _ _ h => h) (Or.inl ⟨by rfl, ?_⟩) (by assumption) ?_
        rotate_left
        · (intro w' hSw; (try dsimp only at hSw); go_simp; all_goals with_reducible rfl)
        try simp only [Act.put, List.getElem_toArray, List.getElem_cons_zero, List.getElem_cons_succ, List.setIfInBounds_toArray, List.set_cons_zero, List.set_cons_succ]
        refine wpAnyH_take (i := 9) (oi := _) (v := ?_) rfl (by kernel_rfl) (by kernel_rfl) (by kernel_rfl) (fun _ _ _ h => h) (Or.inl ⟨by rfl, ?_⟩) (by assumption) ?_
        rotate_left
        · (intro w' hSw; (try dsimp only at hSw); go_simp; all_goals with_reducible rfl)
        try simp only [Act.put, List.getElem_toArray, List.getElem_cons_zero, List.getElem_cons_succ, List.setIfInBounds_toArray, List.set_cons_zero, List.set_cons_succ]
        refine wpAnyH_take (i := 10) (oi := _) (v := ?_) rfl (by kernel_rfl) (by kernel_rfl) (by kernel_rfl) (fun _ _ _ h => h) (Or.inl ⟨by rfl, ?_⟩) (by assumption) ?_
        rotate_left
        · (intro w' hSw; (try dsimp only at hSw); go_simp; all_goals with_reducible rfl)
        try simp only [Act.put, List.getElem_toArray, List.getElem_cons_zero, List.getElem_cons_succ, List.setIfInBounds_toArray, List.set_cons_zero, List.set_cons_succ]
        refine wpAnyH_take (i := 11) (oi := _) (v := ?_) rfl (by kernel_rfl) (by kernel_rfl) (by kernel_rfl) (fun _ _ _ h => h) (Or.inl ⟨by rfl, ?_⟩) (by assumption) ?_
        rotate_left
        · (intro w' hSw; (try dsimp only at hSw); go_simp; all_goals with_reducible rfl)
        try simp only [Act.put, List.getElem_toArray, List.getElem_cons_zero, List.getElem_cons_succ, List.setIfInBounds_toArray, List.set_cons_zero, List.set_cons_succ]
        refine wpAnyH_take (i := 12) (oi := _) (v := undef) rfl (by kernel_rfl) (by kernel_rfl) (by kernel_rfl) (fun _ _ _ h => h) (Or.inr ⟨by rfl, rfl⟩) (by assumption) ?_
        try simp only [Act.put, List.getElem_toArray, List.getElem_cons_zero, List.getElem_cons_succ, List.setIfInBounds_toArray, List.set_cons_zero, List.set_cons_succ]
        refine wpAnyH_take (i := 13) (oi := _) (v := undef) rfl (by kernel_rfl) (by kernel_rfl) (by kernel_rfl) (fun _ _ _ h => h) (Or.inr ⟨by rfl, rfl⟩) (by assumption) ?_
        try simp only [Act.put, List.getElem_toArray, List.getElem_cons_zero, List.getElem_cons_succ, List.setIfInBounds_toArray, List.set_cons_zero, List.set_cons_succ]
        refine wpAnyH_take (i := 14) (oi := _) (v := undef) rfl (by kernel_rfl) (by kernel_rfl) (by kernel_rfl) (fun _ _ _ h => h) (Or.inr ⟨by rfl, rfl⟩) (by assumption) ?_
        try simp only [Act.put, List.getElem_toArray, List.getElem_cons_zero, List.getElem_cons_succ, List.setIfInBounds_toArray, List.set_cons_zero, List.set_cons_succ]
        refine wpAnyH_take (i := 15) (oi := _) (v := undef) rfl (by kernel_rfl) (by kernel_rfl) (by kernel_rfl) (fun _ _ _ h => h) (Or.inr ⟨by rfl, rfl⟩) (by assumption) ?_
        try simp only [Act.put, List.getElem_toArray, List.getElem_cons_zero, List.getElem_cons_succ, List.setIfInBounds_toArray, List.set_cons_zero, List.set_cons_succ]
        refine wpAnyH_take (i := 16) (oi := _) (v := ?_) rfl (by kernel_rfl) (by kernel_rfl) (by kernel_rfl) (fun _ _ _ h => h) (Or.inl ⟨by rfl, ?_⟩) (by assumption) ?_
        rotate_left
        · (intro w' hSw; (try dsimp only at hSw); go_simp; all_goals with_reducible rfl)
        try simp only [Act.put, List.getElem_toArray, List.getElem_cons_zero, List.getElem_cons_succ, List.setIfInBounds_toArray, List.set_cons_zero, List.set_cons_succ]
        refine wpAnyH_take (i := 17) (oi := _) (v := ?_) rfl (by kernel_rfl) (by kernel_rfl) (by kernel_rfl) (fun _ _ _ h => h) (Or.inl ⟨by rfl, ?_⟩) (by assumption) ?_
        rotate_left
        · (intro w' hSw; (try dsimp only at hSw); go_simp; all_goals with_reducible rfl)
        try simp only [Act.put, List.getElem_toArray, List.getElem_cons_zero, List.getElem_cons_succ, List.setIfInBounds_toArray, List.set_cons_zero, List.set_cons_succ]
        refine wpAnyH_take (i := 18) (oi := _) (v := undef) rfl (by kernel_rfl) (by kernel_rfl) (by kernel_rfl) (fun _ _ _ h => h) (Or.inr ⟨by rfl, rfl⟩) (by assumption) ?_
        try simp only [Act.put, List.getElem_toArray, List.getElem_cons_zero, List.getElem_cons_succ, List.setIfInBounds_toArray, List.set_cons_zero, List.set_cons_succ]
        refine wpAnyH_take (i := 19) (oi := _) (v := undef) rfl (by kernel_rfl) (by kernel_rfl) (by kernel_rfl) (fun _ _ _ h => h) (Or.inr ⟨by rfl, rfl⟩) (by assumption) ?_
        try simp only [Act.put, List.getElem_toArray, List.getElem_cons_zero, List.getElem_cons_succ, List.setIfInBounds_toArray, List.set_cons_zero, List.set_cons_succ]
        refine wpAnyH_take (i := 20) (oi := _) (v := undef) rfl (by kernel_rfl) (by kernel_rfl) (by kernel_rfl) (fun _ _ _ h => h) (Or.inr ⟨by rfl, rfl⟩) (by assumption) ?_
        try simp only [Act.put, List.getElem_toArray, List.getElem_cons_zero, List.getElem_cons_succ, List.setIfInBounds_toArray, List.set_cons_zero, List.set_cons_succ]
        refine wpAnyH_take (i := 21) (oi := _) (v := ?_) rfl (by kernel_rfl) (by kernel_rfl) (by kernel_rfl) (fun _ _ _ h => h) (Or.inl ⟨by rfl, ?_⟩) (by assumption) ?_
        rotate_left
        · (intro w' hSw; (try dsimp only at hSw); go_simp; all_goals with_reducible rfl)
        try simp only [Act.put, List.getElem_toArray, List.getElem_cons_zero, List.getElem_cons_succ, List.setIfInBounds_toArray, List.set_cons_zero, List.set_cons_succ]
        refine wpAnyH_take (i := 22) (oi := _) (v := ?_) rfl (by kernel_rfl) (by kernel_rfl) (by kernel_rfl) (fun _ _ _ h => h) (Or.inl ⟨by rfl, ?_⟩) (by assumption) ?_
        rotate_left
        · (intro w' hSw; (try dsimp only at hSw); go_simp; all_goals with_reducible rfl)
        try simp only [Act.put, List.getElem_toArray, List.getElem_cons_zero, List.getElem_cons_succ, List.setIfInBounds_toArray, List.set_cons_zero, List.set_cons_succ]
        refine wpAnyH_take (i := 23) (oi := _) (v := undef) rfl (by kernel_rfl) (by kernel_rfl) (by kernel_rfl) (fun _ _ _ h => h) (Or.inr ⟨by rfl, rfl⟩) (by assumption) ?_
        try simp only [Act.put, List.getElem_toArray, List.getElem_cons_zero, List.getElem_cons_succ, List.setIfInBounds_toArray, List.set_cons_zero, List.set_cons_succ]
        refine wpAnyH_take (i := 24) (oi := _) (v := undef) rfl (by kernel_rfl) (by kernel_rfl) (by kernel_rfl) (fun _ _ _ h => h) (Or.inr ⟨by rfl, rfl⟩) (by assumption) ?_
        try simp only [Act.put, List.getElem_toArray, List.getElem_cons_zero, List.getElem_cons_succ, List.setIfInBounds_toArray, List.set_cons_zero, List.set_cons_succ]
        refine wpAnyH_ready (rs := [25]) (by kernel_rfl) (by simp) ?_
        refine AllReadyH.cons rfl (fun K hK => ?_) AllReadyH.nil
        go_simp
        refine hK.out _ _ (by with_reducible exact hS2) (fun hHeld => ?_)
        clear hK K
        try simp only [Act.put, List.getElem_toArray, List.getElem_cons_zero, List.getElem_cons_succ, List.setIfInBounds_toArray, List.set_cons_zero, List.set_cons_succ]
        refine wpAnyH_take (i := 26) (oi := _) (v := ?_) rfl (by kernel_rfl) (by kernel_rfl) (by kernel_rfl) (fun _ _ _ h => h) (Or.inl ⟨by rfl, ?_⟩) (by assumption) ?_
        rotate_left
        · (intro w' hSw; (try dsimp only at hSw); go_simp; all_goals with_reducible rfl)
        try simp only [Act.put, List.getElem_toArray, List.getElem_cons_zero, List.getElem_cons_succ, List.setIfInBounds_toArray, List.set_cons_zero, List.set_cons_succ]
        refine wpAnyH_take (i := 27) (oi := _) (v := ?_) rfl (by kernel_rfl) (by kernel_rfl) (by kernel_rfl) (fun _ _ _ h => h) (Or.inl ⟨by rfl, ?_⟩) (by assumption) ?_
        rotate_left
        · (intro w' hSw; (try dsimp only at hSw); go_simp; all_goals with_reducible rfl)
        try simp only [Act.put, List.getElem_toArray, List.getElem_cons_zero, List.getElem_cons_succ, List.setIfInBounds_toArray, List.set_cons_zero, List.set_cons_succ]
        refine wpAnyH_done (by kernel_rfl) ?_ _
        go_wp2
        go_ret
        exact ⟨by rw [HR.out]; rfl, hR.out.1⟩
    · have d1 : (seq == (la : Int) + 1) = false := by rw [beq_eq_false_iff_ne]; exact e1
      have HE := Lib.hid e1
      clear e1
      have HR : Hid (fr = false) := Lib.hid (by rw [HF.out, decide_eq_false HE.out]; rfl)
      refine wp_region_held_drew (S := fun w' => w'.cell? ⟨W.heap.size, 0, none⟩ = some (.int .i64 seq) ∧ w'.cell? ⟨W.heap.size, 1, none⟩ = some (.int .i64 at_) ∧ w'.cell? ⟨W.heap.size, 2, none⟩ = some (.slice a len cap)) (by kernel_rfl) (by with_reducible exact hS1) (fun hHeld => ?_)
      refine wpAnyH_take (i := 0) (oi := _) (v := ?_) rfl (by kernel_rfl) (by kernel_rfl) (by kernel_rfl) (fun _ _ _ h => h) (Or.inl ⟨by rfl, ?_⟩) (by assumption) ?_
      rotate_left
      · (intro w' hSw; (try dsimp only at hSw); go_simp; all_goals with_reducible rfl)
      try simp only [Act.put, List.getElem_toArray, List.getElem_cons_zero, List.getElem_cons_succ, List.setIfInBounds_toArray, List.set_cons_zero, List.set_cons_succ]
      refine wpAnyH_take (i := 1) (oi := _) (v := ?_) rfl (by kernel_rfl) (by kernel_rfl) (by kernel_rfl) (fun _ _ _ h => h) (Or.inl ⟨by rfl, ?_⟩) (by assumption) ?_
      rotate_left
      · (intro w' hSw; (try dsimp only at hSw); go_simp; all_goals with_reducible rfl)
      try simp only [Act.put, List.getElem_toArray, List.getElem_cons_zero, List.getElem_cons_succ, List.setIfInBounds_toArray, List.set_cons_zero, List.set_cons_succ]
      refine wpAnyH_take (i := 2) (oi := _) (v := ?_) rfl (by kernel_rfl) (by kernel_rfl) (by kernel_rfl) (fun _ _ _ h => h) (Or.inl ⟨by rfl, ?_⟩) (by assumption) ?_
      rotate_left
      · (intro w' hSw; (try dsimp only at hSw); go_simp; all_goals with_reducible rfl)
      try simp only [Act.put, List.getElem_toArray, List.getElem_cons_zero, List.getElem_cons_succ, List.setIfInBounds_toArray, List.set_cons_zero, List.set_cons_succ]
      refine wpAnyH_ready (rs := [3]) (by kernel_rfl) (by simp) ?_
      refine AllReadyH.cons rfl (fun K hK => ?_) AllReadyH.nil
      go_simp
      go_at_call 18
      refine HL.out.mono ?_
      rintro e w2 ⟨rfl, hS2, hR⟩
      refine hK.out _ _ (by with_reducible exact hS2) (fun hHeld => ?_)
      clear hK K
      try simp only [Act.put, List.getElem_toArray, List.getElem_cons_zero, List.getElem_cons_succ, List.setIfInBounds_toArray, List.set_cons_zero, List.set_cons_succ]
      refine wpAnyH_take (i := 4) (oi := _) (v := ?_) rfl (by kernel_rfl) (by kernel_rfl) (by kernel_rfl) (fun _ _ _ h => h) (Or.inl ⟨by rfl, ?_⟩) (by assumption) ?_
      rotate_left
      · (intro w' hSw; (try dsimp only at hSw); go_simp; all_goals with_reducible rfl)
      try simp only [Act.put, List.getElem_toArray, List.getElem_cons_zero, List.getElem_cons_succ, List.setIfInBounds_toArray, List.set_cons_zero, List.set_cons_succ]
      refine wpAnyH_take (i := 5) (oi := _) (v := ?_) rfl (by kernel_rfl) (by kernel_rfl) (by kernel_rfl) (fun _ _ _ h => h) (Or.inl ⟨by rfl, ?_⟩) (by assumption) ?_
      rotate_left
      · (intro w' hSw; (try dsimp only at hSw); go_simp; all_goals with_reducible rfl)
      try simp only [Act.put, List.getElem_toArray, List.getElem_cons_zero, List.getElem_cons_succ, List.setIfInBounds_toArray, List.set_cons_zero, List.set_cons_succ]
      refine wpAnyH_take (i := 6) (oi := _) (v := ?_) rfl (by kernel_rfl) (by kernel_rfl) (by kernel_rfl) (fun _ _ _ h => h) (Or.inl ⟨by rfl, ?_⟩) (by assumption) ?_
      rotate_left
      · (intro w' hSw; (try dsimp only at hSw); go_simp; all_goals with_reducible rfl)
      try simp only [Act.put, List.getElem_toArray, List.getElem_cons_zero, List.getElem_cons_succ, List.setIfInBounds_toArray, List.set_cons_zero, List.set_cons_succ]
      refine wpAnyH_take (i := 7) (oi := _) (v := undef) rfl (by kernel_rfl) (by kernel_rfl) (by kernel_rfl) (fun _ _ _ h => h) (Or.inr ⟨by rfl, rfl⟩) (by assumption) ?_
      try simp only [Act.put, List.getElem_toArray, List.getElem_cons_zero, List.getElem_cons_succ, List.setIfInBounds_toArray, List.set_cons_zero, List.set_cons_succ]
      refine wpAnyH_take (i := 8) (oi := _) (v := undef) rfl (by kernel_rfl) (by kernel_rfl) (by kernel_rfl) (fun _ _ _ h => h) (Or.inr ⟨by rfl, rfl⟩) (by assumption) ?_
      try simp only [Act.put, List.getElem_toArray, List.getElem_cons_zero, List.getElem_cons_succ, List.setIfInBounds_toArray, List.set_cons_zero, List.set_cons_succ]
      refine wpAnyH_take (i := 9) (oi := _) (v := undef) rfl (by kernel_rfl) (by kernel_rfl) (by kernel_rfl) (fun _ _ _ h => h) (Or.inr ⟨by rfl, rfl⟩) (by assumption) ?_
      try simp only [Act.put, List.getElem_toArray, List.getElem_cons_zero, List.getElem_cons_succ, List.setIfInBounds_toArray, List.set_cons_zero, List.set_cons_succ]
      refine wpAnyH_take (i := 10) (oi := _) (v := ?_) rfl (by kernel_rfl) (by kernel_rfl) (by kernel_rfl) (fun _ _ _ h => h) (Or.inl ⟨by rfl, ?_⟩) (by assumption) ?_
      rotate_left
      · (intro w' hSw; (try dsimp only at hSw); go_simp; all_goals with_reducible rfl)
      try simp only [Act.put, List.getElem_toArray, List.getElem_cons_zero, List.getElem_cons_succ, List.setIfInBounds_toArray, List.set_cons_zero, List.set_cons_succ]
      refine wpAnyH_take (i := 11) (oi := _) (v := ?_) rfl (by kernel_rfl) (by kernel_rfl) (by kernel_rfl) (fun _ _ _ h => h) (Or.inl ⟨by rfl, ?_⟩) (by assumption) ?_
      rotate_left
      · (intro w' hSw; (try dsimp only at hSw); go_simp; all_goals with_reducible rfl)
      try simp only [Act.put, List.getElem_toArray, List.getElem_cons_zero, List.getElem_cons_succ, List.setIfInBounds_toArray, List.set_cons_zero, List.set_cons_succ]
      refine wpAnyH_take (i := 12) (oi := _) (v := undef) rfl (by kernel_rfl) (by kernel_rfl) (by kernel_rfl) (fun _ _ _ h => h) (Or.inr ⟨by rfl, rfl⟩) (by assumption) ?_
      try simp only [Act.put, List.getElem_toArray, List.getElem_cons_zero, List.getElem_cons_succ, List.setIfInBounds_toArray, List.set_cons_zero, List.set_cons_succ]
      refine wpAnyH_take (i := 13) (oi := _) (v := undef) rfl (by kernel_rfl) (by kernel_rfl) (by kernel_rfl) (fun _ _ _ h => h) (Or.inr ⟨by rfl, rfl⟩) (by assumption) ?_
      try simp only [Act.put, List.getElem_toArray, List.getElem_cons_zero, List.getElem_cons_succ, List.setIfInBounds_toArray, List.set_cons_zero, List.set_cons_succ]
      refine wpAnyH_take (i := 14) (oi := _) (v := undef) rfl (by kernel_rfl) (by kernel_rfl) (by kernel_rfl) (fun _ _ _ h => h) (Or.inr ⟨by rfl, rfl⟩) (by assumption) ?_
      try simp only [Act.put, List.getElem_toArray, List.getElem_cons_zero, List.getElem_cons_succ, List.setIfInBounds_toArray, List.set_cons_zero, List.set_cons_succ]
      refine wpAnyH_take (i := 15) (oi := _) (v := undef) rfl (by kernel_rfl) (by kernel_rfl) (by kernel_rfl) (fun _ _ _ h => h) (Or.inr ⟨by rfl, rfl⟩) (by assumption) ?_
      try simp only [Act.put, List.getElem_toArray, List.getElem_cons_zero, List.getElem_cons_succ, List.setIfInBounds_toArray, List.set_cons_zero, List.set_cons_succ]
      refine wpAnyH_take (i := 16) (oi := _) (v := ?_) rfl (by kernel_rfl) (by kernel_rfl) (by kernel_rfl) (fun _ _ _ h => h) (Or.inl ⟨by rfl, ?_⟩) (by assumption) ?_
      rotate_left
      · (intro w' hSw; (try dsimp only at hSw); go_simp; all_goals with_reducible rfl)
      try simp only [Act.put, List.getElem_toArray, List.getElem_cons_zero, List.getElem_cons_succ, List.setIfInBounds_toArray, List.set_cons_zero, List.set_cons_succ]
      refine wpAnyH_take (i := 17) (oi := _) (v := ?_) rfl (by kernel_rfl) (by kernel_rfl) (by kernel_rfl) (fun _ _ _ h => h) (Or.inl ⟨by rfl, ?_⟩) (by assumption) ?_
      rotate_left
      · (intro w' hSw; (try dsimp only at hSw); go_simp; all_goals with_reducible rfl)
      try simp only [Act.put, List.getElem_toArray, List.getElem_cons_zero, List.getElem_cons_succ, List.setIfInBounds_toArray, List.set_cons_zero, List.set_cons_succ]
      refine wpAnyH_take (i := 18) (oi := _) (v := undef) rfl (by kernel_rfl) (by kernel_rfl) (by kernel_rfl) (fun _ _ _ h => h) (Or.inr ⟨by rfl, rfl⟩) (by assumption) ?_
      try simp only [Act.put, List.getElem_toArray, List.getElem_cons_zero, List.getElem_cons_succ, List.setIfInBounds_toArray, List.set_cons_zero, List.set_cons_succ]
      refine wpAnyH_take (i := 19) (oi := _) (v := undef) rfl (by kernel_rfl) (by kernel_rfl) (by kernel_rfl) (fun _ _ _ h => h) (Or.inr ⟨by rfl, rfl⟩) (by assumption) ?_
      try simp only [Act.put, List.getElem_toArray, List.getElem_cons_zero, List.getElem_cons_succ, List.setIfInBounds_toArray, List.set_cons_zero, List.set_cons_succ]
      refine wpAnyH_take (i := 20) (oi := _) (v := undef) rfl (by kernel_rfl) (by kernel_rfl) (by kernel_rfl) (fun _ _ _ h => h) (Or.inr ⟨by rfl, rfl⟩) (by assumption) ?_
      try simp only [Act.put, List.getElem_toArray, List.getElem_cons_zero, List.getElem_cons_succ, List.setIfInBounds_toArray, List.set_cons_zero, List.set_cons_succ]
      refine wpAnyH_take (i := 21) (oi := _) (v := ?_) rfl (by kernel_rfl) (by kernel_rfl) (by kernel_rfl) (fun _ _ _ h => h) (Or.inl ⟨by rfl, ?_⟩) (by assumption) ?_
      rotate_left
      · (intro w' hSw; (try dsimp only at hSw); go_simp; all_goals with_reducible rfl)
      try simp only [Act.put, List.getElem_toArray, List.getElem_cons_zero, List.getElem_cons_succ, List.setIfInBounds_toArray, List.set_cons_zero, List.set_cons_succ]
      refine wpAnyH_take (i := 22) (oi := _) (v := ?_) rfl (by kernel_rfl) (by kernel_rfl) (by kernel_rfl) (fun _ _ _ h => h) (Or.inl ⟨by rfl, ?_⟩) (by assumption) ?_
      rotate_left
      · (intro w' hSw; (try dsimp only at hSw); go_simp; all_goals with_reducible rfl)
      try simp only [Act.put, List.getElem_toArray, List.getElem_cons_zero, List.getElem_cons_succ, List.setIfInBounds_toArray, List.set_cons_zero, List.set_cons_succ]
      refine wpAnyH_take (i := 23) (oi := _) (v := undef) rfl (by kernel_rfl) (by kernel_rfl) (by kernel_rfl) (fun _ _ _ h => h) (Or.inr ⟨by rfl, rfl⟩) (by assumption) ?_
      try simp only [Act.put, List.getElem_toArray, List.getElem_cons_zero, List.getElem_cons_succ, List.setIfInBounds_toArray, List.set_cons_zero, List.set_cons_succ]
      refine wpAnyH_take (i := 24) (oi := _) (v := undef) rfl (by kernel_rfl) (by kernel_rfl) (by kernel_rfl) (fun _ _ _ h => h) (Or.inr ⟨by rfl, rfl⟩) (by assumption) ?_
      try simp only [Act.put, List.getElem_toArray, List.getElem_cons_zero, List.getElem_cons_succ, List.setIfInBounds_toArray, List.set_cons_zero, List.set_cons_succ]
      refine wpAnyH_ready (rs := [25]) (by kernel_rfl) (by simp) ?_
      refine AllReadyH.cons rfl (fun K hK => ?_) AllReadyH.nil
      go_simp
      refine hK.out _ _ (by with_reducible exact hS2) (fun hHeld => ?_)
      clear hK K
      try simp only [Act.put, List.getElem_toArray, List.getElem_cons_zero, List.getElem_cons_succ, List.setIfInBounds_toArray, List.set_cons_zero, List.set_cons_succ]
      refine wpAnyH_take (i := 26) (oi := _) (v := ?_) rfl (by kernel_rfl) (by kernel_rfl) (by kernel_rfl) (fun _ _ _ h => h) (Or.inl ⟨by rfl, ?_⟩) (by assumption) ?_
      rotate_left
      · (intro w' hSw; (try dsimp only at hSw); go_simp; all_goals with_reducible rfl)
      try simp only [Act.put, List.getElem_toArray, List.getElem_cons_zero, List.getElem_cons_succ, List.setIfInBounds_toArray, List.set_cons_zero, List.set_cons_succ]
      refine wpAnyH_take (i := 27) (oi := _) (v := ?_) rfl (by kernel_rfl) (by kernel_rfl) (by kernel_rfl) (fun _ _ _ h => h) (Or.inl ⟨by rfl, ?_⟩) (by assumption) ?_
      rotate_left
      · (intro w' hSw; (try dsimp only at hSw); go_simp; all_goals with_reducible rfl)
      try simp only [Act.put, List.getElem_toArray, List.getElem_cons_zero, List.getElem_cons_succ, List.setIfInBounds_toArray, List.set_cons_zero, List.set_cons_succ]
      refine wpAnyH_done (by kernel_rfl) ?_ _
      go_wp2
      go_ret
      exact ⟨by rw [HR.out]; rfl, hR.out.1⟩
  · go_enter Try.func96, Try.ntmps96
    go_wp2_with fail
    have hwl : IntKind.i64.wrap ((la : Int) + 1) = (la : Int) + 1 := by rw [IntKind.wrap_i64]; omega
    by_cases e1 : seq = (la : Int) + 1
    · have d1 : (seq == (la : Int) + 1) = true := by rw [beq_iff_eq]; exact e1
      have HE := Lib.hid e1
      clear e1
      by_cases e2 : seq ≤ 1099511627776
      · by_cases e3 : lst ≤ at_
        · by_cases e4 : at_ ≤ 1099511627776
          · skip
            have HR : Hid (fr = rb) := Lib.hid (by rw [HF.out, decide_eq_true HE.out, decide_eq_true e2, decide_eq_true e3, decide_eq_true e4]; rfl)
            refine wp_region_held_drew (S := fun w' => w'.cell? ⟨W.heap.size, 0, none⟩ = some (.int .i64 seq) ∧ w'.cell? ⟨W.heap.size, 1, none⟩ = some (.int .i64 at_) ∧ w'.cell? ⟨W.heap.size, 2, none⟩ = some (.slice a len cap)) (by kernel_rfl) (by with_reducible exact hS1) (fun hHeld => ?_)
            refine wpAnyH_take (i := 0) (oi := _) (v := ?_) rfl (by kernel_rfl) (by kernel_rfl) (by kernel_rfl) (fun _ _ _ h => h) (Or.inl ⟨by rfl, ?_⟩) (by assumption) ?_
            rotate_left
            · (intro w' hSw; (try dsimp only at hSw); go_simp; all_goals with_reducible rfl)
            try simp only [Act.put, List.getElem_toArray, List.getElem_cons_zero, List.getElem_cons_succ, List.setIfInBounds_toArray, List.set_cons_zero, List.set_cons_succ]
            refine wpAnyH_take (i := 1) (oi := _) (v := ?_) rfl (by kernel_rfl) (by kernel_rfl) (by kernel_rfl) (fun _ _ _ h => h) (Or.inl ⟨by rfl, ?_⟩) (by assumption) ?_
            rotate_left
            · (intro w' hSw; (try dsimp only at hSw); go_simp; all_goals with_reducible rfl)
            try simp only [Act.put, List.getElem_toArray, List.getElem_cons_zero, List.getElem_cons_succ, List.setIfInBounds_toArray, List.set_cons_zero, List.set_cons_succ]
            refine wpAnyH_take (i := 2) (oi := _) (v := ?_) rfl (by kernel_rfl) (by kernel_rfl) (by kernel_rfl) (fun _ _ _ h => h) (Or.inl ⟨by rfl, ?_⟩) (by assumption) ?_
            rotate_left
            · (intro w' hSw; (try dsimp only at hSw); go_simp; all_goals with_reducible rfl)
            try simp only [Act.put, List.getElem_toArray, List.getElem_cons_zero, List.getElem_cons_succ, List.setIfInBounds_toArray, List.set_cons_zero, List.set_cons_succ]
            refine wpAnyH_ready (rs := [3]) (by kernel_rfl) (by simp) ?_
            refine AllReadyH.cons rfl (fun K hK => ?_) AllReadyH.nil
            go_simp
            go_at_call 18
            refine HL.out.mono ?_
            rintro e w2 ⟨rfl, hS2, hR⟩
            refine hK.out _ _ (by with_reducible exact hS2) (fun hHeld => ?_)
            clear hK K
            try simp only [Act.put, List.getElem_toArray, List.getElem_cons_zero, List.getElem_cons_succ, List.setIfInBounds_toArray, List.set_cons_zero, List.set_cons_succ]
            refine wpAnyH_take (i := 4) (oi := _) (v := ?_) rfl (by kernel_rfl) (by kernel_rfl) (by kernel_rfl) (fun _ _ _ h => h) (Or.inl ⟨by rfl, ?_⟩) (by assumption) ?_
            rotate_left
            · (intro w' hSw; (try dsimp only at hSw); go_simp; all_goals with_reducible rfl)
            try simp only [Act.put, List.getElem_toArray, List.getElem_cons_zero, List.getElem_cons_succ, List.setIfInBounds_toArray, List.set_cons_zero, List.set_cons_succ]
            refine wpAnyH_take (i := 5) (oi := _) (v := ?_) rfl (by kernel_rfl) (by kernel_rfl) (by kernel_rfl) (fun _ _ _ h => h) (Or.inl ⟨by rfl, ?_⟩) (by assumption) ?_
            rotate_left
            · (intro w' hSw; (try dsimp only at hSw); go_simp; all_goals with_reducible rfl)
            try simp only [Act.put, List.getElem_toArray, List.getElem_cons_zero, List.getElem_cons_succ, List.setIfInBounds_toArray, List.set_cons_zero, List.set_cons_succ]
            refine wpAnyH_take (i := 6) (oi := _) (v := ?_) rfl (by kernel_rfl) (by kernel_rfl) (by kernel_rfl) (fun _ _ _ h => h) (Or.inl ⟨by rfl, ?_⟩) (by assumption) ?_
            rotate_left
            · (intro w' hSw; (try dsimp only at hSw); go_simp; all_goals with_reducible rfl)
            try simp only [Act.put, List.getElem_toArray, List.getElem_cons_zero, List.getElem_cons_succ, List.setIfInBounds_toArray, List.set_cons_zero, List.set_cons_succ]
            refine wpAnyH_take (i := 7) (oi := _) (v := ?_) rfl (by kernel_rfl) (by kernel_rfl) (by kernel_rfl) (fun _ _ _ h => h) (Or.inl ⟨by rfl, ?_⟩) (by assumption) ?_
            rotate_left
            · (intro w' hSw; (try dsimp only at hSw); go_simp; all_goals with_reducible rfl)
            try simp only [Act.put, List.getElem_toArray, List.getElem_cons_zero, List.getElem_cons_succ, List.setIfInBounds_toArray, List.set_cons_zero, List.set_cons_succ]
            refine wpAnyH_take (i := 8) (oi := _) (v := ?_) rfl (by kernel_rfl) (by kernel_rfl) (by kernel_rfl) (fun _ _ _ h => h) (Or.inl ⟨by rfl, ?_⟩) (by assumption) ?_
            rotate_left
            · (intro w' hSw; (try dsimp only at hSw); go_simp; all_goals with_reducible rfl)
            try simp only [Act.put, List.getElem_toArray, List.getElem_cons_zero, List.getElem_cons_succ, List.setIfInBounds_toArray, List.set_cons_zero, List.set_cons_succ]
            refine wpAnyH_take (i := 9) (oi := _) (v := ?_) rfl (by kernel_rfl) (by kernel_rfl) (by kernel_rfl) (fun _ _ _ h => h) (Or.inl ⟨by rfl, ?_⟩) (by assumption) ?_
            rotate_left
            · (intro w' hSw; (try dsimp only at hSw); go_simp; all_goals with_reducible rfl)
            try simp only [Act.put, List.getElem_toArray, List.getElem_cons_zero, List.getElem_cons_succ, List.setIfInBounds_toArray, List.set_cons_zero, List.set_cons_succ]
            refine wpAnyH_take (i := 10) (oi := _) (v := ?_) rfl (by kernel_rfl) (by kernel_rfl) (by kernel_rfl) (fun _ _ _ h => h) (Or.inl ⟨by rfl, ?_⟩) (by assumption) ?_
            rotate_left
            · (intro w' hSw; (try dsimp only at hSw); go_simp; all_goals with_reducible rfl)
            try simp only [Act.put, List.getElem_toArray, List.getElem_cons_zero, List.getElem_cons_succ, List.setIfInBounds_toArray, List.set_cons_zero, List.set_cons_succ]
            refine wpAnyH_take (i := 11) (oi := _) (v := ?_) rfl (by kernel_rfl) (by kernel_rfl) (by kernel_rfl) (fun _ _ _ h => h) (Or.inl ⟨by rfl, ?_⟩) (by assumption) ?_
            rotate_left
            · (intro w' hSw; (try dsimp only at hSw); go_simp; all_goals with_reducible rfl)
            try simp only [Act.put, List.getElem_toArray, List.getElem_cons_zero, List.getElem_cons_succ, List.setIfInBounds_toArray, List.set_cons_zero, List.set_cons_succ]
            refine wpAnyH_take (i := 12) (oi := _) (v := ?_) rfl (by kernel_rfl) (by kernel_rfl) (by kernel_rfl) (fun _ _ _ h => h) (Or.inl ⟨by rfl, ?_⟩) (by assumption) ?_
            rotate_left
            · (intro w' hSw; (try dsimp only at hSw); go_simp; all_goals with_reducible rfl)
            try simp only [Act.put, List.getElem_toArray, List.getElem_cons_zero, List.getElem_cons_succ, List.setIfInBounds_toArray, List.set_cons_zero, List.set_cons_succ]
            refine wpAnyH_take (i := 13) (oi := _) (v := ?_) rfl (by kernel_rfl) (by kernel_rfl) (by kernel_rfl) (fun _ _ _ h => h) (Or.inl ⟨by rfl, ?_⟩) (by assumption) ?_
            rotate_left
            · (intro w' hSw; (try dsimp only at hSw); go_simp; all_goals with_reducible rfl)
            try simp only [Act.put, List.getElem_toArray, List.getElem_cons_zero, List.getElem_cons_succ, List.setIfInBounds_toArray, List.set_cons_zero, List.set_cons_succ]
            refine wpAnyH_take (i := 14) (oi := _) (v := ?_) rfl (by kernel_rfl) (by kernel_rfl) (by kernel_rfl) (fun _ _ _ h => h) (Or.inl ⟨by rfl, ?_⟩) (by assumption) ?_
            rotate_left
            · (intro w' hSw; (try dsimp only at hSw); go_simp; all_goals with_reducible rfl)
            try simp only [Act.put, List.getElem_toArray, List.getElem_cons_zero, List.getElem_cons_succ, List.setIfInBounds_toArray, List.set_cons_zero, List.set_cons_succ]
            refine wpAnyH_take (i := 15) (oi := _) (v := ?_) rfl (by kernel_rfl) (by kernel_rfl) (by kernel_rfl) (fun _ _ _ h => h) (Or.inl ⟨by rfl, ?_⟩) (by assumption) ?_
            rotate_left
            · (intro w' hSw; (try dsimp only at hSw); go_simp; all_goals with_reducible rfl)
            try simp only [Act.put, List.getElem_toArray, List.getElem_cons_zero, List.getElem_cons_succ, List.setIfInBounds_toArray, List.set_cons_zero, List.set_cons_succ]
            refine wpAnyH_take (i := 16) (oi := _) (v := ?_) rfl (by kernel_rfl) (by kernel_rfl) (by kernel_rfl) (fun _ _ _ h => h) (Or.inl ⟨by rfl, ?_⟩) (by assumption) ?_
            rotate_left
            · (intro w' hSw; (try dsimp only at hSw); go_simp; all_goals with_reducible rfl)
            try simp only [Act.put, List.getElem_toArray, List.getElem_cons_zero, List.getElem_cons_succ, List.setIfInBounds_toArray, List.set_cons_zero, List.set_cons_succ]
            refine wpAnyH_take (i := 17) (oi := _) (v := ?_) rfl (by kernel_rfl) (by kernel_rfl) (by kernel_rfl) (fun _ _ _ h => h) (Or.inl ⟨by rfl, ?_⟩) (by assumption) ?_
            rotate_left
            · (intro w' hSw; (try dsimp only at hSw); go_simp; all_goals with_reducible rfl)
            try simp only [Act.put, List.getElem_toArray, List.getElem_cons_zero, List.getElem_cons_succ, List.setIfInBounds_toArray, List.set_cons_zero, List.set_cons_succ]
            refine wpAnyH_take (i := 18) (oi := _) (v := ?_) rfl (by kernel_rfl) (by kernel_rfl) (by kernel_rfl) (fun _ _ _ h => h) (Or.inl ⟨by rfl, ?_⟩) (by assumption) ?_
            rotate_left
            · (intro w' hSw; (try dsimp only at hSw); go_simp; all_goals with_reducible rfl)
            try simp only [Act.put, List.getElem_toArray, List.getElem_cons_zero, List.getElem_cons_succ, List.setIfInBounds_toArray, List.set_cons_zero, List.set_cons_succ]
            refine wpAnyH_take (i := 19) (oi := _) (v := ?_) rfl (by kernel_rfl) (by kernel_rfl) (by kernel_rfl) (fun _ _ _ h => h) (Or.inl ⟨by rfl, ?_⟩) (by assumption) ?_
            rotate_left
            · (intro w' hSw; (try dsimp only at hSw); go_simp; all_goals with_reducible rfl)
            try simp only [Act.put, List.getElem_toArray, List.getElem_cons_zero, List.getElem_cons_succ, List.setIfInBounds_toArray, List.set_cons_zero, List.set_cons_succ]
            refine wpAnyH_take (i := 20) (oi := _) (v := ?_) rfl (by kernel_rfl) (by kernel_rfl) (by kernel_rfl) (fun _ _ _ h => h) (Or.inl ⟨by rfl, ?_⟩) (by assumption) ?_
            rotate_left
            · (intro w' hSw; (try dsimp only at hSw); go_simp; all_goals with_reducible rfl)
            try simp only [Act.put, List.getElem_toArray, List.getElem_cons_zero, List.getElem_cons_succ, List.setIfInBounds_toArray, List.set_cons_zero, List.set_cons_succ]
            refine wpAnyH_take (i := 21) (oi := _) (v := ?_) rfl (by kernel_rfl) (by kernel_rfl) (by kernel_rfl) (fun _ _ _ h => h) (Or.inl ⟨by rfl, ?_⟩) (by assumption) ?_
            rotate_left
            · (intro w' hSw; (try dsimp only at hSw); go_simp; all_goals with_reducible rfl)
            try simp only [Act.put, List.getElem_toArray, List.getElem_cons_zero, List.getElem_cons_succ, List.setIfInBounds_toArray, List.set_cons_zero, List.set_cons_succ]
            refine wpAnyH_take (i := 22) (oi := _) (v := ?_) rfl (by kernel_rfl) (by kernel_rfl) (by kernel_rfl) (fun _ _ _ h => h) (Or.inl ⟨by rfl, ?_⟩) (by assumption) ?_
            rotate_left
            · (intro w' hSw; (try dsimp only at hSw); go_simp; all_goals with_reducible rfl)
            try simp only [Act.put, List.getElem_toArray, List.getElem_cons_zero, List.getElem_cons_succ, List.setIfInBounds_toArray, List.set_cons_zero, List.set_cons_succ]
            refine wpAnyH_take (i := 23) (oi := _) (v := ?_) rfl (by kernel_rfl) (by kernel_rfl) (by kernel_rfl) (fun _ _ _ h => h) (Or.inl ⟨by rfl, ?_⟩) (by assumption) ?_
            rotate_left
            · (intro w' hSw; (try dsimp only at hSw); go_simp; all_goals with_reducible rfl)
            try simp only [Act.put, List.getElem_toArray, List.getElem_cons_zero, List.getElem_cons_succ, List.setIfInBounds_toArray, List.set_cons_zero, List.set_cons_succ]
            refine wpAnyH_take (i := 24) (oi := _) (v := ?_) rfl (by kernel_rfl) (by kernel_rfl) (by kernel_rfl) (fun _ _ _ h => h) (Or.inl ⟨by rfl, ?_⟩) (by assumption) ?_
            rotate_left
            · (intro w' hSw; (try dsimp only at hSw); go_simp; all_goals with_reducible rfl)
            try simp only [Act.put, List.getElem_toArray, List.getElem_cons_zero, List.getElem_cons_succ, List.setIfInBounds_toArray, List.set_cons_zero, List.set_cons_succ]
            refine wpAnyH_ready (rs := [25]) (by kernel_rfl) (by simp) ?_
            refine AllReadyH.cons rfl (fun K hK => ?_) AllReadyH.nil
            go_simp
            go_at_call 112
            refine hR.out.2.mono ?_
            rintro e w3 ⟨rfl, hS3, hB3⟩
            refine hK.out _ _ (by with_reducible exact hS3) (fun hHeld => ?_)
            clear hK K
            try simp only [Act.put, List.getElem_toArray, List.getElem_cons_zero, List.getElem_cons_succ, List.setIfInBounds_toArray, List.set_cons_zero, List.set_cons_succ]
            refine wpAnyH_take (i := 26) (oi := _) (v := ?_) rfl (by kernel_rfl) (by kernel_rfl) (by kernel_rfl) (fun _ _ _ h => h) (Or.inl ⟨by rfl, ?_⟩) (by assumption) ?_
            rotate_left
            · (intro w' hSw; (try dsimp only at hSw); go_simp; all_goals with_reducible rfl)
            try simp only [Act.put, List.getElem_toArray, List.getElem_cons_zero, List.getElem_cons_succ, List.setIfInBounds_toArray, List.set_cons_zero, List.set_cons_succ]
            refine wpAnyH_take (i := 27) (oi := _) (v := ?_) rfl (by kernel_rfl) (by kernel_rfl) (by kernel_rfl) (fun _ _ _ h => h) (Or.inl ⟨by rfl, ?_⟩) (by assumption) ?_
            rotate_left
            · (intro w' hSw; (try dsimp only at hSw); go_simp; all_goals with_reducible rfl)
            try simp only [Act.put, List.getElem_toArray, List.getElem_cons_zero, List.getElem_cons_succ, List.setIfInBounds_toArray, List.set_cons_zero, List.set_cons_succ]
            refine wpAnyH_done (by kernel_rfl) ?_ _
            go_wp2
            go_ret
            exact ⟨by rw [HR.out]; rfl, hB3.out⟩
          · have d4 : (at_ ≤ 1099511627776) = False := eq_false e4
            have HR : Hid (fr = false) := Lib.hid (by rw [HF.out, decide_eq_true HE.out, decide_eq_true e2, decide_eq_true e3, decide_eq_false e4]; rfl)
            clear e4
            refine wp_region_held_drew (S := fun w' => w'.cell? ⟨W.heap.size, 0, none⟩ = some (.int .i64 seq) ∧ w'.cell? ⟨W.heap.size, 1, none⟩ = some (.int .i64 at_) ∧ w'.cell? ⟨W.heap.size, 2, none⟩ = some (.slice a len cap)) (by kernel_rfl) (by with_reducible exact hS1) (fun hHeld => ?_)
            refine wpAnyH_take (i := 0) (oi := _) (v := ?_) rfl (by kernel_rfl) (by kernel_rfl) (by kernel_rfl) (fun _ _ _ h => h) (Or.inl ⟨by rfl, ?_⟩) (by assumption) ?_
            rotate_left
            · (intro w' hSw; (try dsimp only at hSw); go_simp; all_goals with_reducible rfl)
            try simp only [Act.put, List.getElem_toArray, List.getElem_cons_zero, List.getElem_cons_succ, List.setIfInBounds_toArray, List.set_cons_zero, List.set_cons_succ]
            refine wpAnyH_take (i := 1) (oi := _) (v := ?_) rfl (by kernel_rfl) (by kernel_rfl) (by kernel_rfl) (fun _ _ _ h => h) (Or.inl ⟨by rfl, ?_⟩) (by assumption) ?_
            rotate_left
            · (intro w' hSw; (try dsimp only at hSw); go_simp; all_goals with_reducible rfl)
            try simp only [Act.put, List.getElem_toArray, List.getElem_cons_zero, List.getElem_cons_succ, List.setIfInBounds_toArray, List.set_cons_zero, List.set_cons_succ]
            refine wpAnyH_take (i := 2) (oi := _) (v := ?_) rfl (by kernel_rfl) (by kernel_rfl) (by kernel_rfl) (fun _ _ _ h => h) (Or.inl ⟨by rfl, ?_⟩) (by assumption) ?_
            rotate_left
            · (intro w' hSw; (try dsimp only at hSw); go_simp; all_goals with_reducible rfl)
            try simp only [Act.put, List.getElem_toArray, List.getElem_cons_zero, List.getElem_cons_succ, List.setIfInBounds_toArray, List.set_cons_zero, List.set_cons_succ]
            refine wpAnyH_ready (rs := [3]) (by kernel_rfl) (by simp) ?_
            refine AllReadyH.cons rfl (fun K hK => ?_) AllReadyH.nil
            go_simp
            go_at_call 18
            refine HL.out.mono ?_
            rintro e w2 ⟨rfl, hS2, hR⟩
            refine hK.out _ _ (by with_reducible exact hS2) (fun hHeld => ?_)
            clear hK K
            try simp only [Act.put, List.getElem_toArray, List.getElem_cons_zero, List.getElem_cons_succ, List.setIfInBounds_toArray, List.set_cons_zero, List.set_cons_succ]
            refine wpAnyH_take (i := 4) (oi := _) (v := ?_) rfl (by kernel_rfl) (by kernel_rfl) (by kernel_rfl) (fun _ _ _ h => h) (Or.inl ⟨by rfl, ?_⟩) (by assumption) ?_
            rotate_left
            · (intro w' hSw; (try dsimp only at hSw); go_simp; all_goals with_reducible rfl)
            try simp only [Act.put, List.getElem_toArray, List.getElem_cons_zero, List.getElem_cons_succ, List.setIfInBounds_toArray, List.set_cons_zero, List.set_cons_succ]
            refine wpAnyH_take (i := 5) (oi := _) (v := ?_) rfl (by kernel_rfl) (by kernel_rfl) (by kernel_rfl) (fun _ _ _ h => h) (Or.inl ⟨by rfl, ?_⟩) (by assumption) ?_
            rotate_left
            · (intro w' hSw; (try dsimp only at hSw); go_simp; all_goals with_reducible rfl)
            try simp only [Act.put, List.getElem_toArray, List.getElem_cons_zero, List.getElem_cons_succ, List.setIfInBounds_toArray, List.set_cons_zero, List.set_cons_succ]
            refine wpAnyH_take (i := 6) (oi := _) (v := ?_) rfl (by kernel_rfl) (by kernel_rfl) (by kernel_rfl) (fun _ _ _ h => h) (Or.inl ⟨by rfl, ?_⟩) (by assumption) ?_
            rotate_left
            · (intro w' hSw; (try dsimp only at hSw); go_simp; all_goals with_reducible rfl)
            try simp only [Act.put, List.getElem_toArray, List.getElem_cons_zero, List.getElem_cons_succ, List.setIfInBounds_toArray, List.set_cons_zero, List.set_cons_succ]
            refine wpAnyH_take (i := 7) (oi := _) (v := ?_) rfl (by kernel_rfl) (by kernel_rfl) (by kernel_rfl) (fun _ _ _ h => h) (Or.inl ⟨by rfl, ?_⟩) (by assumption) ?_
            rotate_left
            · (intro w' hSw; (try dsimp only at hSw); go_simp; all_goals with_reducible rfl)
            try simp only [Act.put, List.getElem_toArray, List.getElem_cons_zero, List.getElem_cons_succ, List.setIfInBounds_toArray, List.set_cons_zero, List.set_cons_succ]
            refine wpAnyH_take (i := 8) (oi := _) (v := ?_) rfl (by kernel_rfl) (by kernel_rfl) (by kernel_rfl) (fun _ _ _ h => h) (Or.inl ⟨by rfl, ?_⟩) (by assumption) ?_
            rotate_left
            · (intro w' hSw; (try dsimp only at hSw); go_simp; all_goals with_reducible rfl)
            try simp only [Act.put, List.getElem_toArray, List.getElem_cons_zero, List.getElem_cons_succ, List.setIfInBounds_toArray, List.set_cons_zero, List.set_cons_succ]
            refine wpAnyH_take (i := 9) (oi := _) (v := ?_) rfl (by kernel_rfl) (by kernel_rfl) (by kernel_rfl) (fun _ _ _ h => h) (Or.inl ⟨by rfl, ?_⟩) (by assumption) ?_
            rotate_left
            · (intro w' hSw; (try dsimp only at hSw); go_simp; all_goals with_reducible rfl)
            try simp only [Act.put, List.getElem_toArray, List.getElem_cons_zero, List.getElem_cons_succ, List.setIfInBounds_toArray, List.set_cons_zero, List.set_cons_succ]
            refine wpAnyH_take (i := 10) (oi := _) (v := ?_) rfl (by kernel_rfl) (by kernel_rfl) (by kernel_rfl) (fun _ _ _ h => h) (Or.inl ⟨by rfl, ?_⟩) (by assumption) ?_
            rotate_left
            · (intro w' hSw; (try dsimp only at hSw); go_simp; all_goals with_reducible rfl)
            try simp only [Act.put, List.getElem_toArray, List.getElem_cons_zero, List.getElem_cons_succ, List.setIfInBounds_toArray, List.set_cons_zero, List.set_cons_succ]
            refine wpAnyH_take (i := 11) (oi := _) (v := ?_) rfl (by kernel_rfl) (by kernel_rfl) (by kernel_rfl) (fun _ _ _ h => h) (Or.inl ⟨by rfl, ?_⟩) (by assumption) ?_
            rotate_left
            · (intro w' hSw; (try dsimp only at hSw); go_simp; all_goals with_reducible rfl)
            try simp only [Act.put, List.getElem_toArray, List.getElem_cons_zero, List.getElem_cons_succ, List.setIfInBounds_toArray, List.set_cons_zero, List.set_cons_succ]
            refine wpAnyH_take (i := 12) (oi := _) (v := ?_) rfl (by kernel_rfl) (by kernel_rfl) (by kernel_rfl) (fun _ _ _ h => h) (Or.inl ⟨by rfl, ?_⟩) (by assumption) ?_
            rotate_left
            · (intro w' hSw; (try dsimp only at hSw); go_simp; all_goals with_reducible rfl)
            try simp only [Act.put, List.getElem_toArray, List.getElem_cons_zero, List.getElem_cons_succ, List.setIfInBounds_toArray, List.set_cons_zero, List.set_cons_succ]
            refine wpAnyH_take (i := 13) (oi := _) (v := ?_) rfl (by kernel_rfl) (by kernel_rfl) (by kernel_rfl) (fun _ _ _ h => h) (Or.inl ⟨by rfl, ?_⟩) (by assumption) ?_
            rotate_left
            · (intro w' hSw; (try dsimp only at hSw); go_simp; all_goals with_reducible rfl)
            try simp only [Act.put, List.getElem_toArray, List.getElem_cons_zero, List.getElem_cons_succ, List.setIfInBounds_toArray, List.set_cons_zero, List.set_cons_succ]
            refine wpAnyH_take (i := 14) (oi := _) (v := ?_) rfl (by kernel_rfl) (by kernel_rfl) (by kernel_rfl) (fun _ _ _ h => h) (Or.inl ⟨by rfl, ?_⟩) (by assumption) ?_
            rotate_left
            · (intro w' hSw; (try dsimp only at hSw); go_simp; all_goals with_reducible rfl)
            try simp only [Act.put, List.getElem_toArray, List.getElem_cons_zero, List.getElem_cons_succ, List.setIfInBounds_toArray, List.set_cons_zero, List.set_cons_succ]
            refine wpAnyH_take (i := 15) (oi := _) (v := ?_) rfl (by kernel_rfl) (by kernel_rfl) (by kernel_rfl) (fun _ _ _ h => h) (Or.inl ⟨by rfl, ?_⟩) (by assumption) ?_
            rotate_left
            · (intro w' hSw; (try dsimp only at hSw); go_simp; all_goals with_reducible rfl)
            try simp only [Act.put, List.getElem_toArray, List.getElem_cons_zero, List.getElem_cons_succ, List.setIfInBounds_toArray, List.set_cons_zero, List.set_cons_succ]
            refine wpAnyH_take (i := 16) (oi := _) (v := ?_) rfl (by kernel_rfl) (by kernel_rfl) (by kernel_rfl) (fun _ _ _ h => h) (Or.inl ⟨by rfl, ?_⟩) (by assumption) ?_
            rotate_left
            · (intro w' hSw; (try dsimp only at hSw); go_simp; all_goals with_reducible rfl)
            try simp only [Act.put, List.getElem_toArray, List.getElem_cons_zero, List.getElem_cons_succ, List.setIfInBounds_toArray, List.set_cons_zero, List.set_cons_succ]
            refine wpAnyH_take (i := 17) (oi := _) (v := ?_) rfl (by kernel_rfl) (by kernel_rfl) (by kernel_rfl) (fun _ _ _ h => h) (Or.inl ⟨by rfl, ?_⟩) (by assumption) ?_
            rotate_left
            · (intro w' hSw; (try dsimp only at hSw); go_simp; all_goals with_reducible rfl)
            try simp only [Act.put, List.getElem_toArray, List.getElem_cons_zero, List.getElem_cons_succ, List.setIfInBounds_toArray, List.set_cons_zero, List.set_cons_succ]
            refine wpAnyH_take (i := 18) (oi := _) (v := ?_) rfl (by kernel_rfl) (by kernel_rfl) (by kernel_rfl) (fun _ _ _ h => h) (Or.inl ⟨by rfl, ?_⟩) (by assumption) ?_
            rotate_left
            · (intro w' hSw; (try dsimp only at hSw); go_simp; all_goals with_reducible rfl)
            try simp only [Act.put, List.getElem_toArray, List.getElem_cons_zero, List.getElem_cons_succ, List.setIfInBounds_toArray, List.set_cons_zero, List.set_cons_succ]
            refine wpAnyH_take (i := 19) (oi := _) (v := ?_) rfl (by kernel_rfl) (by kernel_rfl) (by kernel_rfl) (fun _ _ _ h => h) (Or.inl ⟨by rfl, ?_⟩) (by assumption) ?_
            rotate_left
            · (intro w' hSw; (try dsimp only at hSw); go_simp; all_goals with_reducible rfl)
            try simp only [Act.put, List.getElem_toArray, List.getElem_cons_zero, List.getElem_cons_succ, List.setIfInBounds_toArray, List.set_cons_zero, List.set_cons_succ]
            refine wpAnyH_take (i := 20) (oi := _) (v := ?_) rfl (by kernel_rfl) (by kernel_rfl) (by kernel_rfl) (fun _ _ _ h => h) (Or.inl ⟨by rfl, ?_⟩) (by assumption) ?_
            rotate_left
            · (intro w' hSw; (try dsimp only at hSw); go_simp; all_goals with_reducible rfl)
            try simp only [Act.put, List.getElem_toArray, List.getElem_cons_zero, List.getElem_cons_succ, List.setIfInBounds_toArray, List.set_cons_zero, List.set_cons_succ]
            refine wpAnyH_take (i := 21) (oi := _) (v := ?_) rfl (by kernel_rfl) (by kernel_rfl) (by kernel_rfl) (fun _ _ _ h => h) (Or.inl ⟨by rfl, ?_⟩) (by assumption) ?_
            rotate_left
            · (intro w' hSw; (try dsimp only at hSw); go_simp; all_goals with_reducible rfl)
            try simp only [Act.put, List.getElem_toArray, List.getElem_cons_zero, List.getElem_cons_succ, List.setIfInBounds_toArray, List.set_cons_zero, List.set_cons_succ]
            refine wpAnyH_take (i := 22) (oi := _) (v := ?_) rfl (by kernel_rfl) (by kernel_rfl) (by kernel_rfl) (fun _ _ _ h => h) (Or.inl ⟨by rfl, ?_⟩) (by assumption) ?_
            rotate_left
            · (intro w' hSw; (try dsimp only at hSw); go_simp; all_goals with_reducible rfl)
            try simp only [Act.put, List.getElem_toArray, List.getElem_cons_zero, List.getElem_cons_succ, List.setIfInBounds_toArray, List.set_cons_zero, List.set_cons_succ]
            refine wpAnyH_take (i := 23) (oi := _) (v := undef) rfl (by kernel_rfl) (by kernel_rfl) (by kernel_rfl) (fun _ _ _ h => h) (Or.inr ⟨by rfl, rfl⟩) (by assumption) ?_
            try simp only [Act.put, List.getElem_toArray, List.getElem_cons_zero, List.getElem_cons_succ, List.setIfInBounds_toArray, List.set_cons_zero, List.set_cons_succ]
            refine wpAnyH_take (i := 24) (oi := _) (v := undef) rfl (by kernel_rfl) (by kernel_rfl) (by kernel_rfl) (fun _ _ _ h => h) (Or.inr ⟨by rfl, rfl⟩) (by assumption) ?_
            try simp only [Act.put, List.getElem_toArray, List.getElem_cons_zero, List.getElem_cons_succ, List.setIfInBounds_toArray, List.set_cons_zero, List.set_cons_succ]
            refine wpAnyH_ready (rs := [25]) (by kernel_rfl) (by simp) ?_
            refine AllReadyH.cons rfl (fun K hK => ?_) AllReadyH.nil
            go_simp
            refine hK.out _ _ (by with_reducible exact hS2) (fun hHeld => ?_)
            clear hK K
            try simp only [Act.put, List.getElem_toArray, List.getElem_cons_zero, List.getElem_cons_succ, List.setIfInBounds_toArray, List.set_cons_zero, List.set_cons_succ]
            refine wpAnyH_take (i := 26) (oi := _) (v := ?_) rfl (by kernel_rfl) (by kernel_rfl) (by kernel_rfl) (fun _ _ _ h => h) (Or.inl ⟨by rfl, ?_⟩) (by assumption) ?_
            rotate_left
            · (intro w' hSw; (try dsimp only at hSw); go_simp; all_goals with_reducible rfl)
            try simp only [Act.put, List.getElem_toArray, List.getElem_cons_zero, List.getElem_cons_succ, List.setIfInBounds_toArray, List.set_cons_zero, List.set_cons_succ]
            refine wpAnyH_take (i := 27) (oi := _) (v := ?_) rfl (by kernel_rfl) (by kernel_rfl) (by kernel_rfl) (fun _ _ _ h => h) (Or.inl ⟨by rfl, ?_⟩) (by assumption) ?_
            rotate_left
            · (intro w' hSw; (try dsimp only at hSw); go_simp; all_goals with_reducible rfl)
            try simp only [Act.put, List.getElem_toArray, List.getElem_cons_zero, List.getElem_cons_succ, List.setIfInBounds_toArray, List.set_cons_zero, List.set_cons_succ]
            refine wpAnyH_done (by kernel_rfl) ?_ _
            go_wp2
            go_ret
            exact ⟨by rw [HR.out]; rfl, hR.out.1⟩
        · have d3 : (lst ≤ at_) = False := eq_false e3
          have HR : Hid (fr = false) := Lib.hid (by rw [HF.out, decide_eq_true HE.out, decide_eq_true e2, decide_eq_false e3]; rfl)
          clear e3
          refine wp_region_held_drew (S := fun w' => w'.cell? ⟨W.heap.size, 0, none⟩ = some (.int .i64 seq) ∧ w'.cell? ⟨W.heap.size, 1, none⟩ = some (.int .i64 at_) ∧ w'.cell? ⟨W.heap.size, 2, none⟩ = some (.slice a len cap)) (by kernel_rfl) (by with_reducible exact hS1) (fun hHeld => ?_)
          refine wpAnyH_take (i := 0) (oi := _) (v := ?_) rfl (by kernel_rfl) (by kernel_rfl) (by kernel_rfl) (fun _ _ _ h => h) (Or.inl ⟨by rfl, ?_⟩) (by assumption) ?_
          rotate_left
          · (intro w' hSw; (try dsimp only at hSw); go_simp; all_goals with_reducible rfl)
          try simp only [Act.put, List.getElem_toArray, List.getElem_cons_zero, List.getElem_cons_succ, List.setIfInBounds_toArray, List.set_cons_zero, List.set_cons_succ]
          refine wpAnyH_take (i := 1) (oi := _) (v := ?_) rfl (by kernel_rfl) (by kernel_rfl) (by kernel_rfl) (fun _ _ _ h => h) (Or.inl ⟨by rfl, ?_⟩) (by assumption) ?_
          rotate_left
          · (intro w' hSw; (try dsimp only at hSw); go_simp; all_goals with_reducible rfl)
          try simp only [Act.put, List.getElem_toArray, List.getElem_cons_zero, List.getElem_cons_succ, List.setIfInBounds_toArray, List.set_cons_zero, List.set_cons_succ]
          refine wpAnyH_take (i := 2) (oi := _) (v := ?_) rfl (by kernel_rfl) (by kernel_rfl) (by kernel_rfl) (fun _ _ _ h => h) (Or.inl ⟨by rfl, ?_⟩) (by assumption) ?_
          rotate_left
          · (intro w' hSw; (try dsimp only at hSw); go_simp; all_goals with_reducible rfl)
          try simp only [Act.put, List.getElem_toArray, List.getElem_cons_zero, List.getElem_cons_succ, List.setIfInBounds_toArray, List.set_cons_zero, List.set_cons_succ]
          refine wpAnyH_ready (rs := [3]) (by kernel_rfl) (by simp) ?_
          refine AllReadyH.cons rfl (fun K hK => ?_) AllReadyH.nil
          go_simp
          go_at_call 18
          refine HL.out.mono ?_
          rintro e w2 ⟨rfl, hS2, hR⟩
          refine hK.out _ _ (by with_reducible exact hS2) (fun hHeld => ?_)
          clear hK K
          try simp only [Act.put, List.getElem_toArray, List.getElem_cons_zero, List.getElem_cons_succ, List.setIfInBounds_toArray, List.set_cons_zero, List.set_cons_succ]
          refine wpAnyH_take (i := 4) (oi := _) (v := ?_) rfl (by kernel_rfl) (by kernel_rfl) (by kernel_rfl) (fun _ _ _ h => h) (Or.inl ⟨by rfl, ?_⟩) (by assumption) ?_
          rotate_left
          · (intro w' hSw; (try dsimp only at hSw); go_simp; all_goals with_reducible rfl)
          try simp only [Act.put, List.getElem_toArray, List.getElem_cons_zero, List.getElem_cons_succ, List.setIfInBounds_toArray, List.set_cons_zero, List.set_cons_succ]
          refine wpAnyH_take (i := 5) (oi := _) (v := ?_) rfl (by kernel_rfl) (by kernel_rfl) (by kernel_rfl) (fun _ _ _ h => h) (Or.inl ⟨by rfl, ?_⟩) (by assumption) ?_
          rotate_left
          · (intro w' hSw; (try dsimp only at hSw); go_simp; all_goals with_reducible rfl)
          try simp only [Act.put, List.getElem_toArray, List.getElem_cons_zero, List.getElem_cons_succ, List.setIfInBounds_toArray, List.set_cons_zero, List.set_cons_succ]
          refine wpAnyH_take (i := 6) (oi := _) (v := ?_) rfl (by kernel_rfl) (by kernel_rfl) (by kernel_rfl) (fun _ _ _ h => h) (Or.inl ⟨by rfl, ?_⟩) (by assumption) ?_
          rotate_left
          · (intro w' hSw; (try dsimp only at hSw); go_simp; all_goals with_reducible rfl)
          try simp only [Act.put, List.getElem_toArray, List.getElem_cons_zero, List.getElem_cons_succ, List.setIfInBounds_toArray, List.set_cons_zero, List.set_cons_succ]
          refine wpAnyH_take (i := 7) (oi := _) (v := ?_) rfl (by kernel_rfl) (by kernel_rfl) (by kernel_rfl) (fun _ _ _ h => h) (Or.inl ⟨by rfl, ?_⟩) (by assumption) ?_
          rotate_left
          · (intro w' hSw; (try dsimp only at hSw); go_simp; all_goals with_reducible rfl)
          try simp only [Act.put, List.getElem_toArray, List.getElem_cons_zero, List.getElem_cons_succ, List.setIfInBounds_toArray, List.set_cons_zero, List.set_cons_succ]
          refine wpAnyH_take (i := 8) (oi := _) (v := ?_) rfl (by kernel_rfl) (by kernel_rfl) (by kernel_rfl) (fun _ _ _ h => h) (Or.inl ⟨by rfl, ?_⟩) (by assumption) ?_
          rotate_left
          · (intro w' hSw; (try dsimp only at hSw); go_simp; all_goals with_reducible rfl)
          try simp only [Act.put, List.getElem_toArray, List.getElem_cons_zero, List.getElem_cons_succ, List.setIfInBounds_toArray, List.set_cons_zero, List.set_cons_succ]
          refine wpAnyH_take (i := 9) (oi := _) (v := ?_) rfl (by kernel_rfl) (by kernel_rfl) (by kernel_rfl) (fun _ _ _ h => h) (Or.inl ⟨by rfl, ?_⟩) (by assumption) ?_
          rotate_left
          · (intro w' hSw; (try dsimp only at hSw); go_simp; all_goals with_reducible rfl)
          try simp only [Act.put, List.getElem_toArray, List.getElem_cons_zero, List.getElem_cons_succ, List.setIfInBounds_toArray, List.set_cons_zero, List.set_cons_succ]
          refine wpAnyH_take (i := 10) (oi := _) (v := ?_) rfl (by kernel_rfl) (by kernel_rfl) (by kernel_rfl) (fun _ _ _ h => h) (Or.inl ⟨by rfl, ?_⟩) (by assumption) ?_
          rotate_left
          · (intro w' hSw; (try dsimp only at hSw); go_simp; all_goals with_reducible rfl)
          try simp only [Act.put, List.getElem_toArray, List.getElem_cons_zero, List.getElem_cons_succ, List.setIfInBounds_toArray, List.set_cons_zero, List.set_cons_succ]
          refine wpAnyH_take (i := 11) (oi := _) (v := ?_) rfl (by kernel_rfl) (by kernel_rfl) (by kernel_rfl) (fun _ _ _ h => h) (Or.inl ⟨by rfl, ?_⟩) (by assumption) ?_
          rotate_left
          · (intro w' hSw; (try dsimp only at hSw); go_simp; all_goals with_reducible rfl)
          try simp only [Act.put, List.getElem_toArray, List.getElem_cons_zero, List.getElem_cons_succ, List.setIfInBounds_toArray, List.set_cons_zero, List.set_cons_succ]
          refine wpAnyH_take (i := 12) (oi := _) (v := ?_) rfl (by kernel_rfl) (by kernel_rfl) (by kernel_rfl) (fun _ _ _ h => h) (Or.inl ⟨by rfl, ?_⟩) (by assumption) ?_
          rotate_left
          · (intro w' hSw; (try dsimp only at hSw); go_simp; all_goals with_reducible rfl)
          try simp only [Act.put, List.getElem_toArray, List.getElem_cons_zero, List.getElem_cons_succ, List.setIfInBounds_toArray, List.set_cons_zero, List.set_cons_succ]
          refine wpAnyH_take (i := 13) (oi := _) (v := ?_) rfl (by kernel_rfl) (by kernel_rfl) (by kernel_rfl) (fun _ _ _ h => h) (Or.inl ⟨by rfl, ?_⟩) (by assumption) ?_
          rotate_left
          · (intro w' hSw; (try dsimp only at hSw); go_simp; all_goals with_reducible rfl)
          try simp only [Act.put, List.getElem_toArray, List.getElem_cons_zero, List.getElem_cons_succ, List.setIfInBounds_toArray, List.set_cons_zero, List.set_cons_succ]
          refine wpAnyH_take (i := 14) (oi := _) (v := ?_) rfl (by kernel_rfl) (by kernel_rfl) (by kernel_rfl) (fun _ _ _ h => h) (Or.inl ⟨by rfl, ?_⟩) (by assumption) ?_
          rotate_left
          · (intro w' hSw; (try dsimp only at hSw); go_simp; all_goals with_reducible rfl)
          try simp only [Act.put, List.getElem_toArray, List.getElem_cons_zero, List.getElem_cons_succ, List.setIfInBounds_toArray, List.set_cons_zero, List.set_cons_succ]
          refine wpAnyH_take (i := 15) (oi := _) (v := ?_) rfl (by kernel_rfl) (by kernel_rfl) (by kernel_rfl) (fun _ _ _ h => h) (Or.inl ⟨by rfl, ?_⟩) (by assumption) ?_
          rotate_left
          · (intro w' hSw; (try dsimp only at hSw); go_simp; all_goals with_reducible rfl)
          try simp only [Act.put, List.getElem_toArray, List.getElem_cons_zero, List.getElem_cons_succ, List.setIfInBounds_toArray, List.set_cons_zero, List.set_cons_succ]
          refine wpAnyH_take (i := 16) (oi := _) (v := ?_) rfl (by kernel_rfl) (by kernel_rfl) (by kernel_rfl) (fun _ _ _ h => h) (Or.inl ⟨by rfl, ?_⟩) (by assumption) ?_
          rotate_left
          · (intro w' hSw; (try dsimp only at hSw); go_simp; all_goals with_reducible rfl)
          try simp only [Act.put, List.getElem_toArray, List.getElem_cons_zero, List.getElem_cons_succ, List.setIfInBounds_toArray, List.set_cons_zero, List.set_cons_succ]
          refine wpAnyH_take (i := 17) (oi := _) (v := ?_) rfl (by kernel_rfl) (by kernel_rfl) (by kernel_rfl) (fun _ _ _ h => h) (Or.inl ⟨by rfl, ?_⟩) (by assumption) ?_
          rotate_left
          · (intro w' hSw; (try dsimp only at hSw); go_simp; all_goals with_reducible rfl)
          try simp only [Act.put, List.getElem_toArray, List.getElem_cons_zero, List.getElem_cons_succ, List.setIfInBounds_toArray, List.set_cons_zero, List.set_cons_succ]
          refine wpAnyH_take (i := 18) (oi := _) (v := undef) rfl (by kernel_rfl) (by kernel_rfl) (by kernel_rfl) (fun _ _ _ h => h) (Or.inr ⟨by rfl, rfl⟩) (by assumption) ?_
          try simp only [Act.put, List.getElem_toArray, List.getElem_cons_zero, List.getElem_cons_succ, List.setIfInBounds_toArray, List.set_cons_zero, List.set_cons_succ]
          refine wpAnyH_take (i := 19) (oi := _) (v := undef) rfl (by kernel_rfl) (by kernel_rfl) (by kernel_rfl) (fun _ _ _ h => h) (Or.inr ⟨by rfl, rfl⟩) (by assumption) ?_
          try simp only [Act.put, List.getElem_toArray, List.getElem_cons_zero, List.getElem_cons_succ, List.setIfInBounds_toArray, List.set_cons_zero, List.set_cons_succ]
          refine wpAnyH_take (i := 20) (oi := _) (v := undef) rfl (by kernel_rfl) (by kernel_rfl) (by kernel_rfl) (fun _ _ _ h => h) (Or.inr ⟨by rfl, rfl⟩) (by assumption) ?_
          try simp only [Act.put, List.getElem_toArray, List.getElem_cons_zero, List.getElem_cons_succ, List.setIfInBounds_toArray, List.set_cons_zero, List.set_cons_succ]
          refine wpAnyH_take (i := 21) (oi := _) (v := ?_) rfl (by kernel_rfl) (by kernel_rfl) (by kernel_rfl) (fun _ _ _ h => h) (Or.inl ⟨by rfl, ?_⟩) (by assumption) ?_
          rotate_left
          · (intro w' hSw; (try dsimp only at hSw); go_simp; all_goals with_reducible rfl)
          try simp only [Act.put, List.getElem_toArray, List.getElem_cons_zero, List.getElem_cons_succ, List.setIfInBounds_toArray, List.set_cons_zero, List.set_cons_succ]
          refine wpAnyH_take (i := 22) (oi := _) (v := ?_) rfl (by kernel_rfl) (by kernel_rfl) (by kernel_rfl) (fun _ _ _ h => h) (Or.inl ⟨by rfl, ?_⟩) (by assumption) ?_
          rotate_left
          · (intro w' hSw; (try dsimp only at hSw); go_simp; all_goals with_reducible rfl)
          try simp only [Act.put, List.getElem_toArray, List.getElem_cons_zero, List.getElem_cons_succ, List.setIfInBounds_toArray, List.set_cons_zero, List.set_cons_succ]
          refine wpAnyH_take (i := 23) (oi := _) (v := undef) rfl (by kernel_rfl) (by kernel_rfl) (by kernel_rfl) (fun _ _ _ h => h) (Or.inr ⟨by rfl, rfl⟩) (by assumption) ?_
          try simp only [Act.put, List.getElem_toArray, List.getElem_cons_zero, List.getElem_cons_succ, List.setIfInBounds_toArray, List.set_cons_zero, List.set_cons_succ]
          refine wpAnyH_take (i := 24) (oi := _) (v := undef) rfl (by kernel_rfl) (by kernel_rfl) (by kernel_rfl) (fun _ _ _ h => h) (Or.inr ⟨by rfl, rfl⟩) (by assumption) ?_
          try simp only [Act.put, List.getElem_toArray, List.getElem_cons_zero, List.getElem_cons_succ, List.setIfInBounds_toArray, List.set_cons_zero, List.set_cons_succ]
          refine wpAnyH_ready (rs := [25]) (by kernel_rfl) (by simp) ?_
          refine AllReadyH.cons rfl (fun K hK => ?_) AllReadyH.nil
          go_simp
          refine hK.out _ _ (by with_reducible exact hS2) (fun hHeld => ?_)
          clear hK K
          try simp only [Act.put, List.getElem_toArray, List.getElem_cons_zero, List.getElem_cons_succ, List.setIfInBounds_toArray, List.set_cons_zero, List.set_cons_succ]
          refine wpAnyH_take (i := 26) (oi := _) (v := ?_) rfl (by kernel_rfl) (by kernel_rfl) (by kernel_rfl) (fun _ _ _ h => h) (Or.inl ⟨by rfl, ?_⟩) (by assumption) ?_
          rotate_left
          · (intro w' hSw; (try dsimp only at hSw); go_simp; all_goals with_reducible rfl)
          try simp only [Act.put, List.getElem_toArray, List.getElem_cons_zero, List.getElem_cons_succ, List.setIfInBounds_toArray, List.set_cons_zero, List.set_cons_succ]
          refine wpAnyH_take (i := 27) (oi := _) (v := ?_) rfl (by kernel_rfl) (by kernel_rfl) (by kernel_rfl) (fun _ _ _ h => h) (Or.inl ⟨by rfl, ?_⟩) (by assumption) ?_
          rotate_left
          · (intro w' hSw; (try dsimp only at hSw); go_simp; all_goals with_reducible rfl)
          try simp only [Act.put, List.getElem_toArray, List.getElem_cons_zero, List.getElem_cons_succ, List.setIfInBounds_toArray, List.set_cons_zero, List.set_cons_succ]
          refine wpAnyH_done (by kernel_rfl) ?_ _
          go_wp2
          go_ret
          exact ⟨by rw [HR.out]; rfl, hR.out.1⟩
      · have d2 : (seq ≤ 1099511627776) = False := eq_false e2
        have HR : Hid (fr = false) := Lib.hid (by rw [HF.out, decide_eq_true HE.out, decide_eq_false e2]; rfl)
        clear e2
        refine wp_region_held_drew (S := fun w' => w'.cell? ⟨W.heap.size, 0, none⟩ = some (.int .i64 seq) ∧ w'.cell? ⟨W.heap.size, 1, none⟩ = some (.int .i64 at_) ∧ w'.cell? ⟨W.heap.size, 2, none⟩ = some (.slice a len cap)) (by kernel_rfl) (by with_reducible exact hS1) (fun hHeld => ?_)
        refine wpAnyH_take (i := 0) (oi := _) (v := ?_) rfl (by kernel_rfl) (by kernel_rfl) (by kernel_rfl) (fun _ _ _ h => h) (Or.inl ⟨by rfl, ?_⟩) (by assumption) ?_
        rotate_left
        · (intro w' hSw; (try dsimp only at hSw); go_simp; all_goals with_reducible rfl)
        try simp only [Act.put, List.getElem_toArray, List.getElem_cons_zero, List.getElem_cons_succ, List.setIfInBounds_toArray, List.set_cons_zero, List.set_cons_succ]
        refine wpAnyH_take (i := 1) (oi := _) (v := ?_) rfl (by kernel_rfl) (by kernel_rfl) (by kernel_rfl) (fun _ _ _ h => h) (Or.inl ⟨by rfl, ?_⟩) (by assumption) ?_
        rotate_left
        · (intro w' hSw; (try dsimp only at hSw); go_simp; all_goals with_reducible rfl)
        try simp only [Act.put, List.getElem_toArray, List.getElem_cons_zero, List.getElem_cons_succ, List.setIfInBounds_toArray, List.set_cons_zero, List.set_cons_succ]
        refine wpAnyH_take (i := 2) (oi := _) (v := ?_) rfl (by kernel_rfl) (by kernel_rfl) (by kernel_rfl) (fun _ _ _ h => h) (Or.inl ⟨by rfl, ?_⟩) (by assumption) ?_
        rotate_left
        · (intro w' hSw; (try dsimp only at hSw); go_simp; all_goals with_reducible rfl)
        try simp only [Act.put, List.getElem_toArray, List.getElem_cons_zero, List.getElem_cons_succ, List.setIfInBounds_toArray, List.set_cons_zero, List.set_cons_succ]
        refine wpAnyH_ready (rs := [3]) (by kernel_rfl) (by simp) ?_
        refine AllReadyH.cons rfl (fun K hK => ?_) AllReadyH.nil
        go_simp
        go_at_call 18
        refine HL.out.mono ?_
        rintro e w2 ⟨rfl, hS2, hR⟩
        refine hK.out _ _ (by with_reducible exact hS2) (fun hHeld => ?_)
        clear hK K
        try simp only [Act.put, List.getElem_toArray, List.getElem_cons_zero, List.getElem_cons_succ, List.setIfInBounds_toArray, List.set_cons_zero, List.set_cons_succ]
        refine wpAnyH_take (i := 4) (oi := _) (v := ?_) rfl (by kernel_rfl) (by kernel_rfl) (by kernel_rfl) (fun _ _ _ h => h) (Or.inl ⟨by rfl, ?_⟩) (by assumption) ?_
        rotate_left
        · (intro w' hSw; (try dsimp only at hSw); go_simp; all_goals with_reducible rfl)
        try simp only [Act.put, List.getElem_toArray, List.getElem_cons_zero, List.getElem_cons_succ, List.setIfInBounds_toArray, List.set_cons_zero, List.set_cons_succ]
        refine wpAnyH_take (i := 5) (oi := _) (v := ?_) rfl (by kernel_rfl) (by kernel_rfl) (by kernel_rfl) (fun _ _ _ h => h) (Or.inl ⟨by rfl, ?_⟩) (by assumption) ?_
        rotate_left
        · (intro w' hSw; (try dsimp only at hSw); go_simp; all_goals with_reducible rfl)
        try simp only [Act.put, List.getElem_toArray, List.getElem_cons_zero, List.getElem_cons_succ, List.setIfInBounds_toArray, List.set_cons_zero, List.set_cons_succ]
        refine wpAnyH_take (i := 6) (oi := _) (v := ?_) rfl (by kernel_rfl) (by kernel_rfl) (by kernel_rfl) (fun _ _ _ h => h) (Or.inl ⟨by rfl, ?_⟩) (by assumption) ?_
        rotate_left
        · (intro w' hSw; (try dsimp only at hSw); go_simp; all_goals with_reducible rfl)
        try simp only [Act.put, List.getElem_toArray, List.getElem_cons_zero, List.getElem_cons_succ, List.setIfInBounds_toArray, List.set_cons_zero, List.set_cons_succ]
        refine wpAnyH_take (i := 7) (oi := _) (v := ?_) rfl (by kernel_rfl) (by kernel_rfl) (by kernel_rfl) (fun _ _ _ h => h) (Or.inl ⟨by rfl, ?_⟩) (by assumption) ?_
        rotate_left
        · (intro w' hSw; (try dsimp only at hSw); go_simp; all_goals with_reducible rfl)
        try simp only [Act.put, List.getElem_toArray, List.getElem_cons_zero, List.getElem_cons_succ, List.setIfInBounds_toArray, List.set_cons_zero, List.set_cons_succ]
        refine wpAnyH_take (i := 8) (oi := _) (v := ?_) rfl (by kernel_rfl) (by kernel_rfl) (by kernel_rfl) (fun _ _ _ h => h) (Or.inl ⟨by rfl, ?_⟩) (by assumption) ?_
        rotate_left
        · (intro w' hSw; (try dsimp only at hSw); go_simp; all_goals with_reducible rfl)
        try simp only [Act.put, List.getElem_toArray, List.getElem_cons_zero, List.getElem_cons_succ, List.setIfInBounds_toArray, List.set_cons_zero, List.set_cons_succ]
        refine wpAnyH_take (i := 9) (oi := _) (v := ?_) rfl (by kernel_rfl) (by kernel_rfl) (by kernel_rfl) (fun _ _ _ h => h) (Or.inl ⟨by rfl, ?_⟩) (by assumption) ?_
        rotate_left
        · (intro w' hSw; (try dsimp only at hSw); go_simp; all_goals with_reducible rfl)
        try simp only [Act.put, List.getElem_toArray, List.getElem_cons_zero, List.getElem_cons_succ, List.setIfInBounds_toArray, List.set_cons_zero, List.set_cons_succ]
        refine wpAnyH_take (i := 10) (oi := _) (v := ?_) rfl (by kernel_rfl) (by kernel_rfl) (by kernel_rfl) (fun _ _ _ h => h) (Or.inl ⟨by rfl, ?_⟩) (by assumption) ?_
        rotate_left
        · (intro w' hSw; (try dsimp only at hSw); go_simp; all_goals with_reducible rfl)
        try simp only [Act.put, List.getElem_toArray, List.getElem_cons_zero, List.getElem_cons_succ, List.setIfInBounds_toArray, List.set_cons_zero, List.set_cons_succ]
        refine wpAnyH_take (i := 11) (oi := _) (v := ?_) rfl (by kernel_rfl) (by kernel_rfl) (by kernel_rfl) (fun _ _ _ h => h) (Or.inl ⟨by rfl, ?_⟩) (by assumption) ?_
        rotate_left
        · (intro w' hSw; (try dsimp only at hSw); go_simp; all_goals with_reducible rfl)
        try simp only [Act.put, List.getElem_toArray, List.getElem_cons_zero, List.getElem_cons_succ, List.setIfInBounds_toArray, List.set_cons_zero, List.set_cons_succ]
        refine wpAnyH_take (i := 12) (oi := _) (v := undef) rfl (by kernel_rfl) (by kernel_rfl) (by kernel_rfl) (fun _ _ _ h => h) (Or.inr ⟨by rfl, rfl⟩) (by assumption) ?_
        try simp only [Act.put, List.getElem_toArray, List.getElem_cons_zero, List.getElem_cons_succ, List.setIfInBounds_toArray, List.set_cons_zero, List.set_cons_succ]
        refine wpAnyH_take (i := 13) (oi := _) (v := undef) rfl (by kernel_rfl) (by kernel_rfl) (by kernel_rfl) (fun _ _ _ h => h) (Or.inr ⟨by rfl, rfl⟩) (by assumption) ?_
        try simp only [Act.put, List.getElem_toArray, List.getElem_cons_zero, List.getElem_cons_succ, List.setIfInBounds_toArray, List.set_cons_zero, List.set_cons_succ]
        refine wpAnyH_take (i := 14) (oi := _) (v := undef) rfl (by kernel_rfl) (by kernel_rfl) (by kernel_rfl) (fun _ _ _ h => h) (Or.inr ⟨by rfl, rfl⟩) (by assumption) ?_
        try simp only [Act.put, List.getElem_toArray, List.getElem_cons_zero, List.getElem_cons_succ, List.setIfInBounds_toArray, List.set_cons_zero, List.set_cons_succ]
        refine wpAnyH_take (i := 15) (oi := _) (v := undef) rfl (by kernel_rfl) (by kernel_rfl) (by kernel_rfl) (fun _ _ _ h => h) (Or.inr ⟨by rfl, rfl⟩) (by assumption) ?_
        try simp only [Act.put, List.getElem_toArray, List.getElem_cons_zero, List.getElem_cons_succ, List.setIfInBounds_toArray, List.set_cons_zero, List.set_cons_succ]
        refine wpAnyH_take (i := 16) (oi := _) (v := ?_) rfl (by kernel_rfl) (by kernel_rfl) (by kernel_rfl) (fun _ _ _ h => h) (Or.inl ⟨by rfl, ?_⟩) (by assumption) ?_
        rotate_left
        · (intro w' hSw; (try dsimp only at hSw); go_simp; all_goals with_reducible rfl)
        try simp only [Act.put, List.getElem_toArray, List.getElem_cons_zero, List.getElem_cons_succ, List.setIfInBounds_toArray, List.set_cons_zero, List.set_cons_succ]
        refine wpAnyH_take (i := 17) (oi := _) (v := ?_) rfl (by kernel_rfl) (by kernel_rfl) (by kernel_rfl) (fun _ _ _ h => h) (Or.inl ⟨by rfl, ?_⟩) (by assumption) ?_
        rotate_left
        · (intro w' hSw; (try dsimp only at hSw); go_simp; all_goals with_reducible rfl)
        try simp only [Act.put, List.getElem_toArray, List.getElem_cons_zero, List.getElem_cons_succ, List.setIfInBounds_toArray, List.set_cons_zero, List.set_cons_succ]
        refine wpAnyH_take (i := 18) (oi := _) (v := undef) rfl (by kernel_rfl) (by kernel_rfl) (by kernel_rfl) (fun _ _ _ h => h) (Or.inr ⟨by rfl, rfl⟩) (by assumption) ?_
        try simp only [Act.put, List.getElem_toArray, List.getElem_cons_zero, List.getElem_cons_succ, List.setIfInBounds_toArray, List.set_cons_zero, List.set_cons_succ]
        refine wpAnyH_take (i := 19) (oi := _) (v := undef) rfl (by kernel_rfl) (by kernel_rfl) (by kernel_rfl) (fun _ _ _ h => h) (Or.inr ⟨by rfl, rfl⟩) (by assumption) ?_
        try simp only [Act.put, List.getElem_toArray, List.getElem_cons_zero, List.getElem_cons_succ, List.setIfInBounds_toArray, List.set_cons_zero, List.set_cons_succ]
        refine wpAnyH_take (i := 20) (oi := _) (v := undef) rfl (by kernel_rfl) (by kernel_rfl) (by kernel_rfl) (fun _ _ _ h => h) (Or.inr ⟨by rfl, rfl⟩) (by assumption) ?_
        try simp only [Act.put, List.getElem_toArray, List.getElem_cons_zero, List.getElem_cons_succ, List.setIfInBounds_toArray, List.set_cons_zero, List.set_cons_succ]
        refine wpAnyH_take (i := 21) (oi := _) (v := ?_) rfl (by kernel_rfl) (by kernel_rfl) (by kernel_rfl) (fun _ _ _ h => h) (Or.inl ⟨by rfl, ?_⟩) (by assumption) ?_
        rotate_left
        · (intro w' hSw; (try dsimp only at hSw); go_simp; all_goals with_reducible rfl)
        try simp only [Act.put, List.getElem_toArray, List.getElem_cons_zero, List.getElem_cons_succ, List.setIfInBounds_toArray, List.set_cons_zero, List.set_cons_succ]
        refine wpAnyH_take (i := 22) (oi := _) (v := ?_) rfl (by kernel_rfl) (by kernel_rfl) (by kernel_rfl) (fun _ _ _ h => h) (Or.inl ⟨by rfl, ?_⟩) (by assumption) ?_
        rotate_left
        · (intro w' hSw; (try dsimp only at hSw); go_simp; all_goals with_reducible rfl)
        try simp only [Act.put, List.getElem_toArray, List.getElem_cons_zero, List.getElem_cons_succ, List.setIfInBounds_toArray, List.set_cons_zero, List.set_cons_succ]
        refine wpAnyH_take (i := 23) (oi := _) (v := undef) rfl (by kernel_rfl) (by kernel_rfl) (by kernel_rfl) (fun _ _ _ h => h) (Or.inr ⟨by rfl, rfl⟩) (by assumption) ?_
        try simp only [Act.put, List.getElem_toArray, List.getElem_cons_zero, List.getElem_cons_succ, List.setIfInBounds_toArray, List.set_cons_zero, List.set_cons_succ]
        refine wpAnyH_take (i := 24) (oi := _) (v := undef) rfl (by kernel_rfl) (by kernel_rfl) (by kernel_rfl) (fun _ _ _ h => h) (Or.inr ⟨by rfl, rfl⟩) (by assumption) ?_
        try simp only [Act.put, List.getElem_toArray, List.getElem_cons_zero, List.getElem_cons_succ, List.setIfInBounds_toArray, List.set_cons_zero, List.set_cons_succ]
        refine wpAnyH_ready (rs := [25]) (by kernel_rfl) (by simp) ?_
        refine AllReadyH.cons rfl (fun K hK => ?_) AllReadyH.nil
        go_simp
        refine hK.out _ _ (by with_reducible exact hS2) (fun hHeld => ?_)
        clear hK K
        try simp only [Act.put, List.getElem_toArray, List.getElem_cons_zero, List.getElem_cons_succ, List.setIfInBounds_toArray, List.set_cons_zero, List.set_cons_succ]
        refine wpAnyH_take (i := 26) (oi := _) (v := ?_) rfl (by kernel_rfl) (by kernel_rfl) (by kernel_rfl) (fun _ _ _ h => h) (Or.inl ⟨by rfl, ?_⟩) (by assumption) ?_
        rotate_left
        · (intro w' hSw; (try dsimp only at hSw); go_simp; all_goals with_reducible rfl)
        try simp only [Act.put, List.getElem_toArray, List.getElem_cons_zero, List.getElem_cons_succ, List.setIfInBounds_toArray, List.set_cons_zero, List.set_cons_succ]
        refine wpAnyH_take (i := 27) (oi := _) (v := ?_) rfl (by kernel_rfl) (by kernel_rfl) (by kernel_rfl) (fun _ _ _ h => h) (Or.inl ⟨by rfl, ?_⟩) (by assumption) ?_
        rotate_left
        · (intro w' hSw; (try dsimp only at hSw); go_simp; all_goals with_reducible rfl)
        try simp only [Act.put, List.getElem_toArray, List.getElem_cons_zero, List.getElem_cons_succ, List.setIfInBounds_toArray, List.set_cons_zero, List.set_cons_succ]
        refine wpAnyH_done (by kernel_rfl) ?_ _
        go_wp2
        go_ret
        exact ⟨by rw [HR.out]; rfl, hR.out.1⟩
    · have d1 : (seq == (la : Int) + 1) = false := by rw [beq_eq_false_iff_ne]; exact e1
      have HE := Lib.hid e1
      clear e1
      have HR : Hid (fr = false) := Lib.hid (by rw [HF.out, decide_eq_false HE.out]; rfl)
      refine wp_region_held_drew (S := fun w' => w'.cell? ⟨W.heap.size, 0, none⟩ = some (.int .i64 seq) ∧ w'.cell? ⟨W.heap.size, 1, none⟩ = some (.int .i64 at_) ∧ w'.cell? ⟨W.heap.size, 2, none⟩ = some (.slice a len cap)) (by kernel_rfl) (by with_reducible exact hS1) (fun hHeld => ?_)
      refine wpAnyH_take (i := 0) (oi := _) (v := ?_) rfl (by kernel_rfl) (by kernel_rfl) (by kernel_rfl) (fun _ _ _ h => h) (Or.inl ⟨by rfl, ?_⟩) (by assumption) ?_
      rotate_left
      · (intro w' hSw; (try dsimp only at hSw); go_simp; all_goals with_reducible rfl)
      try simp only [Act.put, List.getElem_toArray, List.getElem_cons_zero, List.getElem_cons_succ, List.setIfInBounds_toArray, List.set_cons_zero, List.set_cons_succ]
      refine wpAnyH_take (i := 1) (oi := _) (v := ?_) rfl (by kernel_rfl) (by kernel_rfl) (by kernel_rfl) (fun _ _ _ h => h) (Or.inl ⟨by rfl, ?_⟩) (by assumption) ?_
      rotate_left
      · (intro w' hSw; (try dsimp only at hSw); go_simp; all_goals with_reducible rfl)
      try simp only [Act.put, List.getElem_toArray, List.getElem_cons_zero, List.getElem_cons_succ, List.setIfInBounds_toArray, List.set_cons_zero, List.set_cons_succ]
      refine wpAnyH_take (i := 2) (oi := _) (v := ?_) rfl (by kernel_rfl) (by kernel_rfl) (by kernel_rfl) (fun _ _ _ h => h) (Or.inl ⟨by rfl, ?_⟩) (by assumption) ?_
      rotate_left
      · (intro w' hSw; (try dsimp only at hSw); go_simp; all_goals with_reducible rfl)
      try simp only [Act.put, List.getElem_toArray, List.getElem_cons_zero, List.getElem_cons_succ, List.setIfInBounds_toArray, List.set_cons_zero, List.set_cons_succ]
      refine wpAnyH_ready (rs := [3]) (by kernel_rfl) (by simp) ?_
      refine AllReadyH.cons rfl (fun K hK => ?_) AllReadyH.nil
      go_simp
      go_at_call 18
      refine HL.out.mono ?_
      rintro e w2 ⟨rfl, hS2, hR⟩
      refine hK.out _ _ (by with_reducible exact hS2) (fun hHeld => ?_)
      clear hK K
      try simp only [Act.put, List.getElem_toArray, List.getElem_cons_zero, List.getElem_cons_succ, List.setIfInBounds_toArray, List.set_cons_zero, List.set_cons_succ]
      refine wpAnyH_take (i := 4) (oi := _) (v := ?_) rfl (by kernel_rfl) (by kernel_rfl) (by kernel_rfl) (fun _ _ _ h => h) (Or.inl ⟨by rfl, ?_⟩) (by assumption) ?_
      rotate_left
      · (intro w' hSw; (try dsimp only at hSw); go_simp; all_goals with_reducible rfl)
      try simp only [Act.put, List.getElem_toArray, List.getElem_cons_zero, List.getElem_cons_succ, List.setIfInBounds_toArray, List.set_cons_zero, List.set_cons_succ]
      refine wpAnyH_take (i := 5) (oi := _) (v := ?_) rfl (by kernel_rfl) (by kernel_rfl) (by kernel_rfl) (fun _ _ _ h => h) (Or.inl ⟨by rfl, ?_⟩) (by assumption) ?_
      rotate_left
      · (intro w' hSw; (try dsimp only at hSw); go_simp; all_goals with_reducible rfl)
      try simp only [Act.put, List.getElem_toArray, List.getElem_cons_zero, List.getElem_cons_succ, List.setIfInBounds_toArray, List.set_cons_zero, List.set_cons_succ]
      refine wpAnyH_take (i := 6) (oi := _) (v := ?_) rfl (by kernel_rfl) (by kernel_rfl) (by kernel_rfl) (fun _ _ _ h => h) (Or.inl ⟨by rfl, ?_⟩) (by assumption) ?_
      rotate_left
      · (intro w' hSw; (try dsimp only at hSw); go_simp; all_goals with_reducible rfl)
      try simp only [Act.put, List.getElem_toArray, List.getElem_cons_zero, List.getElem_cons_succ, List.setIfInBounds_toArray, List.set_cons_zero, List.set_cons_succ]
      refine wpAnyH_take (i := 7) (oi := _) (v := undef) rfl (by kernel_rfl) (by kernel_rfl) (by kernel_rfl) (fun _ _ _ h => h) (Or.inr ⟨by rfl, rfl⟩) (by assumption) ?_
      try simp only [Act.put, List.getElem_toArray, List.getElem_cons_zero, List.getElem_cons_succ, List.setIfInBounds_toArray, List.set_cons_zero, List.set_cons_succ]
      refine wpAnyH_take (i := 8) (oi := _) (v := undef) rfl (by kernel_rfl) (by kernel_rfl) (by kernel_rfl) (fun _ _ _ h => h) (Or.inr ⟨by rfl, rfl⟩) (by assumption) ?_
      try simp only [Act.put, List.getElem_toArray, List.getElem_cons_zero, List.getElem_cons_succ, List.setIfInBounds_toArray, List.set_cons_zero, List.set_cons_succ]
      refine wpAnyH_take (i := 9) (oi := _) (v := undef) rfl (by kernel_rfl) (by kernel_rfl) (by kernel_rfl) (fun _ _ _ h => h) (Or.inr ⟨by rfl, rfl⟩) (by assumption) ?_
      try simp only [Act.put, List.getElem_toArray, List.getElem_cons_zero, List.getElem_cons_succ, List.setIfInBounds_toArray, List.set_cons_zero, List.set_cons_succ]
      refine wpAnyH_take (i := 10) (oi := _) (v := ?_) rfl (by kernel_rfl) (by kernel_rfl) (by kernel_rfl) (fun _ _ _ h => h) (Or.inl ⟨by rfl, ?_⟩) (by assumption) ?_
      rotate_left
      · (intro w' hSw; (try dsimp only at hSw); go_simp; all_goals with_reducible rfl)
      try simp only [Act.put, List.getElem_toArray, List.getElem_cons_zero, List.getElem_cons_succ, List.setIfInBounds_toArray, List.set_cons_zero, List.set_cons_succ]
      refine wpAnyH_take (i := 11) (oi := _) (v := ?_) rfl (by kernel_rfl) (by kernel_rfl) (by kernel_rfl) (fun _ _ _ h => h) (Or.inl ⟨by rfl, ?_⟩) (by assumption) ?_
      rotate_left
      · (intro w' hSw; (try dsimp only at hSw); go_simp; all_goals with_reducible rfl)
      try simp only [Act.put, List.getElem_toArray, List.getElem_cons_zero, List.getElem_cons_succ, List.setIfInBounds_toArray, List.set_cons_zero, List.set_cons_succ]
      refine wpAnyH_take (i := 12) (oi := _) (v := undef) rfl (by kernel_rfl) (by kernel_rfl) (by kernel_rfl) (fun _ _ _ h => h) (Or.inr ⟨by rfl, rfl⟩) (by assumption) ?_
      try simp only [Act.put, List.getElem_toArray, List.getElem_cons_zero, List.getElem_cons_succ, List.setIfInBounds_toArray, List.set_cons_zero, List.set_cons_succ]
      refine wpAnyH_take (i := 13) (oi := _) (v := undef) rfl (by kernel_rfl) (by kernel_rfl) (by kernel_rfl) (fun _ _ _ h => h) (Or.inr ⟨by rfl, rfl⟩) (by assumption) ?_
      try simp only [Act.put, List.getElem_toArray, List.getElem_cons_zero, List.getElem_cons_succ, List.setIfInBounds_toArray, List.set_cons_zero, List.set_cons_succ]
      refine wpAnyH_take (i := 14) (oi := _) (v := undef) rfl (by kernel_rfl) (by kernel_rfl) (by kernel_rfl) (fun _ _ _ h => h) (Or.inr ⟨by rfl, rfl⟩) (by assumption) ?_
      try simp only [Act.put, List.getElem_toArray, List.getElem_cons_zero, List.getElem_cons_succ, List.setIfInBounds_toArray, List.set_cons_zero, List.set_cons_succ]
      refine wpAnyH_take (i := 15) (oi := _) (v := undef) rfl (by kernel_rfl) (by kernel_rfl) (by kernel_rfl) (fun _ _ _ h => h) (Or.inr ⟨by rfl, rfl⟩) (by assumption) ?_
      try simp only [Act.put, List.getElem_toArray, List.getElem_cons_zero, List.getElem_cons_succ, List.setIfInBounds_toArray, List.set_cons_zero, List.set_cons_succ]
      refine wpAnyH_take (i := 16) (oi := _) (v := ?_) rfl (by kernel_rfl) (by kernel_rfl) (by kernel_rfl) (fun _ _ _ h => h) (Or.inl ⟨by rfl, ?_⟩) (by assumption) ?_
      rotate_left
      · (intro w' hSw; (try dsimp only at hSw); go_simp; all_goals with_reducible rfl)
      try simp only [Act.put, List.getElem_toArray, List.getElem_cons_zero, List.getElem_cons_succ, List.setIfInBounds_toArray, List.set_cons_zero, List.set_cons_succ]
      refine wpAnyH_take (i := 17) (oi := _) (v := ?_) rfl (by kernel_rfl) (by kernel_rfl) (by kernel_rfl) (fun _ _ _ h => h) (Or.inl ⟨by rfl, ?_⟩) (by assumption) ?_
      rotate_left
      · (intro w' hSw; (try dsimp only at hSw); go_simp; all_goals with_reducible rfl)
      try simp only [Act.put, List.getElem_toArray, List.getElem_cons_zero, List.getElem_cons_succ, List.setIfInBounds_toArray, List.set_cons_zero, List.set_cons_succ]
      refine wpAnyH_take (i := 18) (oi := _) (v := undef) rfl (by kernel_rfl) (by kernel_rfl) (by kernel_rfl) (fun _ _ _ h => h) (Or.inr ⟨by rfl, rfl⟩) (by assumption) ?_
      try simp only [Act.put, List.getElem_toArray, List.getElem_cons_zero, List.getElem_cons_succ, List.setIfInBounds_toArray, List.set_cons_zero, List.set_cons_succ]
      refine wpAnyH_take (i := 19) (oi := _) (v := undef) rfl (by kernel_rfl) (by kernel_rfl) (by kernel_rfl) (fun _ _ _ h => h) (Or.inr ⟨by rfl, rfl⟩) (by assumption) ?_
      try simp only [Act.put, List.getElem_toArray, List.getElem_cons_zero, List.getElem_cons_succ, List.setIfInBounds_toArray, List.set_cons_zero, List.set_cons_succ]
      refine wpAnyH_take (i := 20) (oi := _) (v := undef) rfl (by kernel_rfl) (by kernel_rfl) (by kernel_rfl) (fun _ _ _ h => h) (Or.inr ⟨by rfl, rfl⟩) (by assumption) ?_
      try simp only [Act.put, List.getElem_toArray, List.getElem_cons_zero, List.getElem_cons_succ, List.setIfInBounds_toArray, List.set_cons_zero, List.set_cons_succ]
      refine wpAnyH_take (i := 21) (oi := _) (v := ?_) rfl (by kernel_rfl) (by kernel_rfl) (by kernel_rfl) (fun _ _ _ h => h) (Or.inl ⟨by rfl, ?_⟩) (by assumption) ?_
      rotate_left
      · (intro w' hSw; (try dsimp only at hSw); go_simp; all_goals with_reducible rfl)
      try simp only [Act.put, List.getElem_toArray, List.getElem_cons_zero, List.getElem_cons_succ, List.setIfInBounds_toArray, List.set_cons_zero, List.set_cons_succ]
      refine wpAnyH_take (i := 22) (oi := _) (v := ?_) rfl (by kernel_rfl) (by kernel_rfl) (by kernel_rfl) (fun _ _ _ h => h) (Or.inl ⟨by rfl, ?_⟩) (by assumption) ?_
      rotate_left
      · (intro w' hSw; (try dsimp only at hSw); go_simp; all_goals with_reducible rfl)
      try simp only [Act.put, List.getElem_toArray, List.getElem_cons_zero, List.getElem_cons_succ, List.setIfInBounds_toArray, List.set_cons_zero, List.set_cons_succ]
      refine wpAnyH_take (i := 23) (oi := _) (v := undef) rfl (by kernel_rfl) (by kernel_rfl) (by kernel_rfl) (fun _ _ _ h => h) (Or.inr ⟨by rfl, rfl⟩) (by assumption) ?_
      try simp only [Act.put, List.getElem_toArray, List.getElem_cons_zero, List.getElem_cons_succ, List.setIfInBounds_toArray, List.set_cons_zero, List.set_cons_succ]
      refine wpAnyH_take (i := 24) (oi := _) (v := undef) rfl (by kernel_rfl) (by kernel_rfl) (by kernel_rfl) (fun _ _ _ h => h) (Or.inr ⟨by rfl, rfl⟩) (by assumption) ?_
      try simp only [Act.put, List.getElem_toArray, List.getElem_cons_zero, List.getElem_cons_succ, List.setIfInBounds_toArray, List.set_cons_zero, List.set_cons_succ]
      refine wpAnyH_ready (rs := [25]) (by kernel_rfl) (by simp) ?_
      refine AllReadyH.cons rfl (fun K hK => ?_) AllReadyH.nil
      go_simp
      refine hK.out _ _ (by with_reducible exact hS2) (fun hHeld => ?_)
      clear hK K
      try simp only [Act.put, List.getElem_toArray, List.getElem_cons_zero, List.getElem_cons_succ, List.setIfInBounds_toArray, List.set_cons_zero, List.set_cons_succ]
      refine wpAnyH_take (i := 26) (oi := _) (v := ?_) rfl (by kernel_rfl) (by kernel_rfl) (by kernel_rfl) (fun _ _ _ h => h) (Or.inl ⟨by rfl, ?_⟩) (by assumption) ?_
      rotate_left
      · (intro w' hSw; (try dsimp only at hSw); go_simp; all_goals with_reducible rfl)
      try simp only [Act.put, List.getElem_toArray, List.getElem_cons_zero, List.getElem_cons_succ, List.setIfInBounds_toArray, List.set_cons_zero, List.set_cons_succ]
      refine wpAnyH_take (i := 27) (oi := _) (v := ?_) rfl (by kernel_rfl) (by kernel_rfl) (by kernel_rfl) (fun _ _ _ h => h) (Or.inl ⟨by rfl, ?_⟩) (by assumption) ?_
      rotate_left
      · (intro w' hSw; (try dsimp only at hSw); go_simp; all_goals with_reducible rfl)
      try simp only [Act.put, List.getElem_toArray, List.getElem_cons_zero, List.getElem_cons_succ, List.setIfInBounds_toArray, List.set_cons_zero, List.set_cons_succ]
      refine wpAnyH_done (by kernel_rfl) ?_ _
      go_wp2
      go_ret
      exact ⟨by rw [HR.out]; rfl, hR.out.1⟩


theorem commit_out {P : Nat → Prop} {W : World} {s : Nat} {M : StM} (h0 : StoreAt P W s M) (seq at_ : Int) {a : Option Addr} {len cap : Nat} {ws : List Wr} (hw : WrsIs W a ws) (hl : ws.length = len) (hf : M.fits seq at_ ws = false) :
    Calls Try.prog 49 #[.pointer (some ⟨s, 0, none⟩), .agg #[.int .i64 seq, .int .i64 at_, .slice a len cap]] W fun e w' => e = .returned (.int .i64 1) ∧ Below W.heap.size W w' := by
  have hb0 : Below W.heap.size W (W.alloc (.cells #[.int .i64 seq, .int .i64 at_, .slice a len cap] 45)) := (Below.refl _ _).alloc (Nat.le_refl _) _
  have HF := Lib.hid (fits_all (cap := cap) (h0.below hb0) seq at_ (hw.below hb0) hl)
  rw [hf] at HF
  have HB0 := Lib.hid hb0
  clear hf h0 hw hl hb0
  go_enter Try.func49, Try.ntmps49
  go_wp2_with fail
  refine HF.out.mono ?_
  rintro e w1 ⟨rfl, hb⟩
  have HB := Lib.hid (HB0.out.trans (hb.mono HB0.out.size))
  clear hb HF HB0
  go_wp2
  first | exact ⟨rfl, HB.out⟩ | (go_ret; exact ⟨rfl, HB.out⟩)

end Go.Proofs.Ytcebnoapgceodaa.sT
end

section
namespace Go.Proofs.Ytcebnoapgceodaa.sT
open Go.RowKit Go.Proofs.Ytcebnoapgceodaa.tC

set_option linter.unusedVariables false
set_option linter.unusedSimpArgs false

/-- what State.Store answers -/
def RcStoreP (W : World) (seq : Int) (ws : List Wr) (cs : List CmM) (e : Ending) (W' : World) : Prop := Below W.heap.size W W' ∧
  (((∀ lo : Nat, (lo : Int) = seq → ¬ Takes lo ws cs) ∧ e = .returned (.tuple #[.pointer none, .int .i64 1])) ∨
   ∃ (s lo : Nat), (lo : Int) = seq ∧ lo ≤ 1099511627776 ∧ Takes lo ws cs ∧ e = .returned (.tuple #[.pointer (some ⟨s, 0, none⟩), .int .i64 0]) ∧ Sep W.heap.size (fun _ => False) W' s (madeM lo ws cs))

/-- z commits taken -/
def RcI (W : World) (lo s : Nat) (ws : List Wr) (cs : List CmM) (z : Nat) (wr : World) : Prop := Below W.heap.size W wr ∧ Takes lo ws (cs.take z) ∧ Sep W.heap.size (fun _ => False) wr s (madeM lo ws (cs.take z))

theorem sep_down {n0 n1 : Nat} {W : World} {s : Nat} {M : StM} (h : Sep n1 (fun _ => False) W s M) (hn : n0 ≤ n1) : Sep n0 (fun _ => False) W s M := by
  obtain ⟨⟨P, k1, k2⟩, k3, k4⟩ := h
  exact ⟨⟨P, k1, fun q hq => ⟨Nat.le_trans hn (k2 q hq).1, (k2 q hq).2⟩⟩, k3, by omega⟩

theorem takes_200 {lo : Nat} {ws : List Wr} {cs : List CmM} (h : Takes lo ws cs) : sumC cs ≤ cs.length * 201 := sumC_le cs fun c hc => by
  obtain ⟨z, hz, rfl⟩ := List.getElem_of_mem hc
  have h2 := h.2 z hz
  unfold StM.fits rightL at h2
  simp only [Bool.and_eq_true, decide_eq_true_eq] at h2
  exact h2.2.1
theorem fits_200 {M : StM} {seq at_ : Int} {ws : List Wr} (h : M.fits seq at_ ws = true) : ws.length ≤ 200 := by
  unfold StM.fits rightL at h
  simp only [Bool.and_eq_true, decide_eq_true_eq] at h
  exact h.2.1
/-- no more than a store can count -/
def Few11 (ws : List Wr) (cs : List CmM) : Prop := ∀ (lo z : Nat), z ≤ cs.length → Takes lo ws (cs.take z) → ws.length + sumC (cs.take z) < 30000
theorem few_len {ws : List Wr} {cs : List CmM} (h : ws.length + cs.length * 201 < 30000) : Few11 ws cs := fun lo z hz ht => by
  have h1 := takes_200 ht
  rw [List.length_take, Nat.min_eq_left hz] at h1
  have : z * 201 ≤ cs.length * 201 := Nat.mul_le_mul_right _ hz
  omega
theorem few_sum {ws : List Wr} {cs : List CmM} (h : ws.length + sumC cs < 30000) : Few11 ws cs := fun lo z hz ht => by
  have := sumC_take cs z
  omega

theorem rc_step {W wr : World} {lo s : Nat} {ws : List Wr} {cs : List CmM} {z : Nat} (h : RcI W lo s ws cs z wr) (hz : z < cs.length) (hb : Few11 ws cs) {wa : Option Addr} {wc : Nat} (hw : WrsIs W wa (cs[z]).ws) :
    ∀ w1, Below wr.heap.size wr w1 → Calls Try.prog 49 #[.pointer (some ⟨s, 0, none⟩), .agg #[.int .i64 (cs[z]).seq, .int .i64 (cs[z]).at_, .slice wa (cs[z]).ws.length wc]] w1 fun e W' =>
      (¬ Takes lo ws cs ∧ e = .returned (.int .i64 1) ∧ Hid (Below W.heap.size W W')) ∨ (e = .returned (.int .i64 0) ∧ Hid (RcI W lo s ws cs (z + 1) W')) := fun w1 hb1 => by
  obtain ⟨h1, h2, h3⟩ := h
  have hg := sg_take z (by omega) h2
  have hs := hb lo z (by omega) h2
  have hbb : Below W.heap.size W w1 := h1.trans (hb1.mono h1.size)
  have h3w : Sep W.heap.size (fun _ => False) w1 s (madeM lo ws (cs.take z)) := (h3.below hb1).less (K' := fun _ => False) fun q hq => hq.elim
  cases hf : (madeM lo ws (cs.take z)).fits (cs[z]).seq (cs[z]).at_ (cs[z]).ws with
  | false =>
    obtain ⟨P, hP⟩ := h3w.at_
    refine (commit_out (cap := wc) hP (cs[z]).seq (cs[z]).at_ (hw.below hbb) rfl hf).mono ?_
    rintro e W' ⟨rfl, hk⟩
    refine .inl ⟨fun ht => ?_, rfl, Lib.hid (hbb.trans (hk.mono hbb.size))⟩
    have := ht.2 z hz
    rw [hf] at this
    cases this
  | true =>
    have h200 := fits_200 hf
    have hfar : (cs[z]).ws = [] ∨ ∀ b off, wa = some ⟨b, off, none⟩ → b < W.heap.size ∨ False := by
      rcases hw with hw | ⟨b, off, ea, hlt, _⟩
      · exact .inl hw
      · refine .inr fun b2 off2 e2 => .inl ?_
        rw [ea] at e2
        injection e2 with e2
        injection e2 with e2
        omega
    refine (sep_commit (cap := wc) h3w hg (cs[z]).seq (cs[z]).at_ (hw.below hbb) rfl (by omega) hfar).mono ?_
    rintro e W' ⟨hk, ⟨c1, c2, _⟩ | ⟨c1, c2, c3⟩⟩
    · rw [hf] at c1; cases c1
    · refine .inr ⟨c2, Lib.hid ⟨hbb.trans (hk.below.mono (Nat.le_refl _)), takes_pre h2 hz c1, ?_⟩⟩
      rw [List.take_succ_eq_append_getElem hz, madeM_snoc]
      exact c3

set_option maxHeartbeats 1000000 in
set_option maxRecDepth 100000 in
theorem rcStore_any {W : World} (seq : Int) {a : Option Addr} {len cap : Nat} {ws : List Wr} (h : WrsIs W a ws) (hl : ws.length = len) {ca : Option Addr} {cl cc : Nat} {cs : List CmM} (hc : CIs W ca cs) (hcl : cs.length = cl) (hw9 : ws.length < 30000) (hb : Few11 ws cs) (hcb : cl ≤ 1000000) :
    Calls Try.prog 25 #[.agg #[.int .i64 seq, .slice a len cap, .slice ca cl cc]] W (RcStoreP W seq ws cs) := by
  have hb0 : Below W.heap.size W (W.alloc (.cells #[.int .i64 seq, .slice a len cap, .slice ca cl cc] 43)) := (Below.refl _ W).alloc (Nat.le_refl _) _
  have HN : Hid (Calls Try.prog 33 #[.int .i64 seq, .slice a len cap] (W.alloc (.cells #[.int .i64 seq, .slice a len cap, .slice ca cl cc] 43)) fun e W1 => Hid (W1.cell? ⟨W.heap.size, 2, none⟩ = some (.slice ca cl cc)) ∧ (((∀ lo : Nat, (lo : Int) = seq → ¬ Takes lo ws cs) ∧ e = .returned (.tuple #[.pointer none, .int .i64 1]) ∧ Hid (Below W.heap.size W W1)) ∨ ∃ s lo : Nat, (lo : Int) = seq ∧ lo ≤ 1099511627776 ∧ e = .returned (.tuple #[.pointer (some ⟨s, 0, none⟩), .int .i64 0]) ∧ Hid (RcI W lo s ws cs 0 W1))) := Lib.hid (by
    refine (sep_new (n0 := W.heap.size) (cap := cap) seq (h.below hb0) hl (by omega)).mono ?_
    rintro e W1 ⟨hb1, h2⟩
    have hbb := hb0.trans (hb1.mono hb0.size)
    refine ⟨Lib.hid ((hb1.cell (p := ⟨W.heap.size, 2, none⟩) (by simp)).trans (by simp)), ?_⟩
    rcases h2 with ⟨h2, rfl⟩ | ⟨h2, s, lo, h3, h4, rfl, h5⟩
    · refine .inl ⟨fun lo hlo ht => ?_, rfl, Lib.hid hbb⟩
      have := ht.1
      rw [hlo, h2] at this
      cases this
    · refine .inr ⟨s, lo, h3, h4, rfl, Lib.hid ⟨hbb, ⟨by rw [h3]; exact h2, fun y hy => by simp at hy⟩, ?_⟩⟩
      have h6 := sep_down h5 hb0.size
      rw [← h3] at h6
      exact h6)
  have HR : Hid (∀ (lo s : Nat) (wr : World) (z : Nat), z < cl → RcI W lo s ws cs z wr → ∃ b off wa wl wc sq at_, ca = some ⟨b, off, none⟩ ∧ b < wr.heap.size ∧ wr.cell? ⟨b, off + z * 3, none⟩ = some (.int .i64 sq) ∧ wr.cell? ⟨b, off + z * 3 + 1, none⟩ = some (.int .i64 at_) ∧ wr.cell? ⟨b, off + z * 3 + 2, none⟩ = some (.slice wa wl wc) ∧
      Hid (Calls Try.prog 49 #[.pointer (some ⟨s, 0, none⟩), .agg #[.int .i64 sq, .int .i64 at_, .slice wa wl wc]] (wr.alloc (.cells #[.int .i64 sq, .int .i64 at_, .slice wa wl wc] 45)) fun e W' =>
        (¬ Takes lo ws cs ∧ e = .returned (.int .i64 1) ∧ Hid (Below W.heap.size W W')) ∨ (e = .returned (.int .i64 0) ∧ Hid (RcI W lo s ws cs (z + 1) W')))) := Lib.hid fun lo s wr z hz h1 => by
    have hz2 : z < cs.length := by omega
    rcases hc with hc | ⟨b, off, ea, hblt, hv⟩
    · rw [hc] at hz2; simp at hz2
    · obtain ⟨m0, m1, wa, wc, m2, m3⟩ := hv z hz2
      have hlow := h1.1
      refine ⟨b, off, wa, _, wc, _, _, ea, Nat.lt_of_lt_of_le hblt hlow.size, (hlow.cell (p := ⟨b, _, none⟩) hblt).trans m0, (hlow.cell (p := ⟨b, _, none⟩) hblt).trans m1, (hlow.cell (p := ⟨b, _, none⟩) hblt).trans m2, Lib.hid ?_⟩
      exact rc_step h1 hz2 hb m3 _ ((Below.refl _ wr).alloc (Nat.le_refl _) _)
  have HF1 : Hid (∀ W', (∀ lo : Nat, (lo : Int) = seq → ¬ Takes lo ws cs) → Below W.heap.size W W' → RcStoreP W seq ws cs (.returned (.tuple #[.pointer none, .int .i64 1])) W') := Lib.hid fun W' h1 h2 => ⟨h2, .inl ⟨h1, rfl⟩⟩
  have HF2 : Hid (∀ (W' : World) (lo s : Nat), (lo : Int) = seq → lo ≤ 1099511627776 → RcI W lo s ws cs cl W' → RcStoreP W seq ws cs (.returned (.tuple #[.pointer (some ⟨s, 0, none⟩), .int .i64 0])) W') := Lib.hid fun W' lo s h1 h2 h3 => by
    obtain ⟨k1, k2, k3⟩ := h3
    rw [List.take_of_length_le (by omega)] at k2 k3
    exact ⟨k1, .inr ⟨s, lo, h1, h2, k2, rfl, k3⟩⟩
  obtain ⟨Q, hQ⟩ : ∃ Q, Q = RcStoreP W seq ws cs := ⟨_, rfl⟩
  rw [← hQ] at HF1 HF2 ⊢
  clear hQ h hl hc hcl hb hb0 hw9
  go_enter Try.func25, Try.ntmps25
  go_wp2_with fail
  refine HN.out.mono ?_
  rintro e w1 ⟨hc2, ⟨hn, rfl, hB⟩ | ⟨s, lo, hlo, hlo2, rfl, hI⟩⟩
  · have HF := Lib.hid (HF1.out w1 hn hB.out)
    clear HN HR HF1 HF2 hc2 hn hB
    go_wp2
    first | exact HF.out | (refine bodyPost_ret (v := .tuple #[.pointer none, .int .i64 1]) (by simp [results, Try.results25, go_sem]) rfl HF.out)
  · have HLO := Lib.hid (And.intro hlo hlo2)
    have hcx := hc2.out
    clear HN hlo hlo2 hc2
    go_wp2_with fail
    clear hcx
    go_loopw [23] (fun iv wr => ∃ z : Nat, z ≤ cl ∧ iv = .int .i64 (z : Int) ∧ Hid (RcI W lo s ws cs z wr)) (fun iv _ => cl - (intOf iv).toNat)
    case atStart => exact ⟨0, Nat.zero_le _, rfl, hI⟩
    case round =>
      obtain ⟨z, hz, rfl, hst⟩ := hrel
      clear hI
      by_cases hzl : z < cl
      · have hzI : (z : Int) < (cl : Int) := by omega
        obtain ⟨b, off, wa, wl, wc, sq, at_, ea, hblt, m0, m1, m2, HC⟩ := HR.out lo s wr z hzl hst.out
        subst ea
        clear hst HR
        go_wp2_with fail
        refine HC.out.mono ?_
        rintro e w3 (⟨hn, rfl, hB⟩ | ⟨rfl, HN2⟩)
        · have HF := Lib.hid (HF1.out w3 (fun lo2 h2 ht => hn (by
            obtain rfl : lo2 = lo := by have := HLO.out.1; omega
            exact ht)) hB.out)
          clear HC hn hB HF1 HF2
          go_wp2
          first | exact HF.out | (refine bodyPost_ret (v := .tuple #[.pointer none, .int .i64 1]) (by simp [results, Try.results25, go_sem]) rfl HF.out)
        · clear HC
          go_wp2_with fail
          go_roundw
          case rel => exact ⟨z + 1, by omega, by go_num, HN2⟩
          case measure => simp [intOf]; omega
      · obtain rfl : z = cl := by omega
        have hzI : ¬ (z : Int) < (z : Int) := by omega
        have HF := Lib.hid (HF2.out wr lo s HLO.out.1 HLO.out.2 hst.out)
        clear hst HR HF1 HF2 hzl hz
        go_wp2
        first | exact HF.out | (refine bodyPost_ret (v := .tuple #[.pointer (some ⟨s, 0, none⟩), .int .i64 0]) (by simp [results, Try.results25, go_sem]) rfl HF.out)

end Go.Proofs.Ytcebnoapgceodaa.sT
end

section
namespace Go.Proofs.Ytcebnoapgceodaa
open Go.ChangeShapes Go.WideShapes Go.ChangeAt Go.RowKit Go.Deep Go.Joins Go.Proofs.Ytcebnoapgceodaa.sT

set_option linter.unusedVariables false
set_option linter.unusedSimpArgs false

instance : Inhabited CmM := ⟨⟨0, 0, []⟩⟩
/-- what a walk is told of commits that came in -/
def CmsCame (w : World) (a : Option Addr) (len cap : Nat) (cs : List CmM) : Prop := cs.length = len ∧ len ≤ cap ∧ CIs w a cs ∧ ∀ c ∈ cs, c.ws.length ≤ 9223372036854775807

theorem cellsCmA : Try.prog.cellsOf 45 = 3 := by kernel_rfl

set_option maxRecDepth 100000 in
theorem cm_of {H : Type} {enc : TypeId × Value → H} {W : World} {base : Nat} {sp : Nat → Bool} {held : Bool} {n : Nat} {cs : List Value} {x : DataW H × List MemPlace}
    (h : DataW.trod enc Try.prog W base sp held n 45 cs = some x) : ∃ (c : CmM) (wa : Option Addr) (wc : Nat), cs = [.int .i64 c.seq, .int .i64 c.at_, .slice wa c.ws.length wc] ∧ WrsIs W wa c.ws ∧ c.ws.length ≤ 9223372036854775807 := by
  obtain ⟨y0, y1, y2, m, _, hl, h0, h1, h2⟩ := trod_struct3 Try.underlying45 h
  rw [cellsCmA] at hl
  obtain ⟨c0, c1, c2, rfl⟩ : ∃ c0 c1 c2, cs = [c0, c1, c2] := by
    rcases cs with _ | ⟨c0, _ | ⟨c1, _ | ⟨c2, _ | ⟨c3, r⟩⟩⟩⟩
    · simp at hl
    · simp at hl
    · simp at hl
    · exact ⟨c0, c1, c2, rfl⟩
    · simp at hl
  clear hl
  obtain ⟨s, e0, _, _⟩ := DataW.trod_int Try.underlying3 h0
  obtain ⟨t, e1, _, _⟩ := DataW.trod_int Try.underlying3 h1
  obtain ⟨a, len, cap, e2, ws, k1, k2, k3, k4, _⟩ := wrs_trod h2
  have f0 : c0 = .int .i64 s := by
    have : [c0] = [.int .i64 s] := e0
    simpa using this
  have f1 : c1 = .int .i64 t := by
    have : [c1] = [.int .i64 t] := e1
    simpa using this
  have f2 : c2 = .slice a len cap := by
    have : [c2] = [.slice a len cap] := e2
    simpa using this
  exact ⟨⟨s, t, ws⟩, a, cap, by rw [f0, f1, f2, k1], k4, by show ws.length ≤ _; omega⟩

set_option linter.unusedSimpArgs false in
theorem cms_trod {H : Type} {enc : TypeId × Value → H} {W : World} {base : Nat} {sp : Nat → Bool} {held : Bool} {fuel : Nat} {cs : List Value} {x : DataW H × List MemPlace}
    (hf : DataW.trod enc Try.prog W base sp held fuel 27 cs = some x) : ∃ a len cap, cs = [.slice a len cap] ∧ ∃ cs, CmsCame W a len cap cs := by
  rcases open_slice Try.underlying27 hf with ⟨hcs, _⟩ | ⟨x, l, c, m, n, D, Pl, hcs, _, hl, hmx, hm, _, hx⟩
  · exact ⟨none, 0, 0, hcs, [], rfl, Nat.le_refl _, .inl rfl, by simp⟩
  · refine ⟨some x, l, c, hcs, ?_⟩
    by_cases h0 : l = 0
    · subst h0
      exact ⟨[], rfl, hl, .inl rfl, by simp⟩
    · have hm' : l ≤ m := by rw [hm]; split <;> omega
      obtain ⟨f, hfp⟩ := choose_lt (n := l) (p := fun i (p : CmM) => ∃ (wa : Option Addr) (wc : Nat), (∀ j v, ([.int .i64 p.seq, .int .i64 p.at_, .slice wa p.ws.length wc] : List Value)[j]? = some v → W.cell? ((x.add (i * 3)).add j) = some v) ∧ WrsIs W wa p.ws ∧ p.ws.length ≤ 9223372036854775807) (fun i hi => by
        obtain ⟨cs', h1, h2⟩ := hx i (by omega)
        obtain ⟨p, wa, wc, hp, hp2, hp3⟩ := cm_of h2
        rw [cellsCmA] at h1
        obtain ⟨_, hlen, hc⟩ := World.cells?_some h1
        refine ⟨p, wa, wc, fun j v hj => ?_, hp2, hp3⟩
        rw [← hp] at hj
        have hj4 : j < 3 := by
          have := (List.getElem?_eq_some_iff.1 hj).1
          omega
        rw [hc j hj4, hj])
      have hspot : x.spot = none := by
        obtain ⟨wa, wc, h1, _⟩ := hfp 0 (by omega)
        have h1 := h1 0 _ rfl
        simpa [Addr.add] using World.cell?_spot h1
      obtain ⟨b, off, spot⟩ := x
      have hspot : spot = none := hspot
      subst hspot
      have hat : ∀ i j, ((⟨b, off, none⟩ : Addr).add (i * 3)).add j = ⟨b, off + i * 3 + j, none⟩ := fun i j => by
        unfold Addr.add
        by_cases h1 : i * 3 = 0 <;> by_cases h2 : j = 0 <;> simp [h1, h2]
      refine ⟨(List.range l).map f, by simp, hl, .inr ⟨b, off, rfl, ?_, ?_⟩, ?_⟩
      · obtain ⟨wa, wc, h1, _⟩ := hfp 0 (by omega)
        have h1 := h1 0 _ rfl
        rw [hat] at h1
        exact World.block_lt_of_cell? W _ h1
      · intro i hi
        have hi' : i < l := by simpa using hi
        have e : ((List.range l).map f)[i] = f i := by simp
        rw [e]
        obtain ⟨wa, wc, h1, h2, _⟩ := hfp i hi'
        refine ⟨?_, ?_, wa, wc, ?_, h2⟩
        · have := h1 0 _ rfl; rwa [hat] at this
        · have := h1 1 _ rfl; rwa [hat] at this
        · have := h1 2 _ rfl; rwa [hat] at this
      · intro y hy
        obtain ⟨i, hi, rfl⟩ := List.mem_map.1 hy
        obtain ⟨_, _, _, _, h3⟩ := hfp i (List.mem_range.1 hi)
        exact h3

theorem cellsSt : Try.prog.cellsOf 43 = 3 := by kernel_rfl

set_option maxRecDepth 100000 in
/-- a state among a law's arguments -/
theorem state_arg {H : Type} {enc : TypeId × Value → H} {W : World} {base : Nat} {sp : Nat → Bool} {held : Bool} {v : Value} {d : DataW H} {ps : List MemPlace}
    (h : DataW.Trod enc Try.prog W base sp held 43 v d ps) : ∃ s a len cap ca cl cc, v = .agg #[.int .i64 s, .slice a len cap, .slice ca cl cc] ∧ (∃ ws, WrsCame W a len cap ws) ∧ ∃ cs, CmsCame W ca cl cc cs := by
  obtain ⟨fuel, hf⟩ := h
  obtain ⟨y0, y1, y2, m, _, hl, h0, h1, h2⟩ := trod_struct3 Try.underlying43 hf
  rw [cellsSt] at hl
  obtain ⟨cs, hcs⟩ : ∃ cs, cs = v.cells.toList := ⟨_, rfl⟩
  have hl' : cs.length = 3 := by rw [hcs]; simpa using hl
  obtain ⟨c0, c1, c2, hc3⟩ : ∃ c0 c1 c2, cs = [c0, c1, c2] := by
    rcases cs with _ | ⟨c0, _ | ⟨c1, _ | ⟨c2, _ | ⟨c3, r⟩⟩⟩⟩
    · simp at hl'
    · simp at hl'
    · simp at hl'
    · exact ⟨c0, c1, c2, rfl⟩
    · simp at hl'
  rw [← hcs, hc3] at h0 h1 h2
  obtain ⟨s, e0, _, _⟩ := DataW.trod_int Try.underlying3 h0
  obtain ⟨a, len, cap, e1, hws⟩ := wrs_trod h1
  obtain ⟨ca, cl, cc, e2, hcms⟩ := cms_trod h2
  refine ⟨s, a, len, cap, ca, cl, cc, ?_, hws, hcms⟩
  have f0 : c0 = .int .i64 s := by
    have : [c0] = [.int .i64 s] := e0
    simpa using this
  have f1 : c1 = .slice a len cap := by
    have : [c1] = [.slice a len cap] := e1
    simpa using this
  have f2 : c2 = .slice ca cl cc := by
    have : [c2] = [.slice ca cl cc] := e2
    simpa using this
  rw [f0, f1, f2] at hc3
  cases v with
  | agg as' =>
    have hc : as'.toList = [.int .i64 s, .slice a len cap, .slice ca cl cc] := by rw [← hc3, hcs]; simp [Value.cells]
    rw [show as' = #[.int .i64 s, .slice a len cap, .slice ca cl cc] by rw [← Array.toList_inj]; exact hc]
  | _ => exfalso; rw [hc3] at hcs; simp [Value.cells] at hcs

end Go.Proofs.Ytcebnoapgceodaa
end
end
