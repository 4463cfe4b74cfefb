/-
  rec: a commit as bytes: the contracts.
-/
import Derived.Test.YtgpfmhoodohggaaRRight
namespace Go.Proofs.Ytgpfmhoodohggaa
open Go.RowKit

set_option linter.unusedVariables false

def octW (x : Wr) : List UInt8 := octT x.key ++ (octF x.gone ++ octT x.val)
def octWs (ws : List Wr) : List UInt8 := octN ws.length ++ ws.flatMap octW
def octC (s t : Nat) (ws : List Wr) : List UInt8 := octN s ++ (octN t ++ octWs ws)

theorem octT_len (s : ByteArray) (h : s.size ≤ 5000) : (octT s).length ≤ 5009 := by
  unfold octT
  have := octN_lt s.size (by omega)
  rw [List.length_append]
  have h2 : s.data.toList.length = s.size := Array.length_toList
  omega
theorem octW_len (x : Wr) (h : x.key.size ≤ 5000 ∧ x.val.size ≤ 5000) : (octW x).length ≤ 10100 := by
  unfold octW
  have h1 := octT_len x.key h.1
  have h2 := octT_len x.val h.2
  rw [List.length_append, List.length_append]
  have : (octF x.gone).length = 1 := rfl
  omega
theorem flat_len : ∀ (ws : List Wr), (∀ x ∈ ws, x.key.size ≤ 5000 ∧ x.val.size ≤ 5000) → (ws.flatMap octW).length ≤ 10100 * ws.length
  | [], _ => by simp
  | x :: r, h => by
    have h1 := octW_len x (h x List.mem_cons_self)
    have h2 := flat_len r fun y hy => h y (List.mem_cons_of_mem _ hy)
    rw [List.flatMap_cons, List.length_append, List.length_cons]
    omega
theorem flat_take (ws : List Wr) (k : Nat) (h : k < ws.length) : (ws.take (k + 1)).flatMap octW = (ws.take k).flatMap octW ++ octW ws[k] := by
  rw [List.take_succ_eq_append_getElem h, List.flatMap_append]
  simp

theorem conv_bs {P : Program} (E B : Nat) (w : World) (src dst : TypeId) (hs : P.underlying src = some (.slice E)) (he : P.underlying E = some (.int .u8)) (hd : P.underlying dst = some .string) (v : Value) (l : List UInt8) (hown : Bs E B w v l) :
    (convert src dst v).run P w = .ok (.string ⟨l.toArray⟩) w := by
  rcases hown.2 with ⟨rfl, h0⟩ | ⟨g, cap, cur, rfl, _⟩
  · have : l = [] := List.eq_nil_of_length_eq_zero h0
    subst this
    exact run_convert_bytes_nil (P := P) w src E hs he 0 0 dst hd
  · exact run_convert_bytes_back (P := P) w src dst E _ cap l hs he hd fun j hj => World.ownsRow.cells hown (g := g) rfl j _ (by simp [Lib.byteCells, hj])

theorem Bs.size {E B : Nat} {w : World} {v : Value} {l : List UInt8} (h : Bs E B w v l) : ∀ q, v.ownBlock = some q → B ≤ q ∧ q < w.heap.size := World.ownsRow.lt h
theorem Bs.grow {E B : Nat} {w w' : World} {v : Value} {l : List UInt8} (h : Bs E B w v l) (hg : w.grownBy w' none) : Bs E B w' v l := World.ownsRow.kept h hg (by by_cases hv : v.ownBlock = none; exact .inl hv; exact .inr hv)

/-- a cell of a block that is not the row's -/
theorem Up.cell {w w' : World} {v v' : Value} (h : Up w v w' v') {c : Nat} (hc : c < w.heap.size) (hv : v.ownBlock ≠ some c) (i : Nat) : w'.cell? ⟨c, i, none⟩ = w.cell? ⟨c, i, none⟩ :=
  World.cell?_of_block (a := ⟨c, i, none⟩) (h.1.block c hc fun e => hv e.symm)
theorem Up.ne {w w' : World} {v v' : Value} (h : Up w v w' v') {c : Nat} (hc : c < w.heap.size) (hv : v.ownBlock ≠ some c) : v'.ownBlock ≠ some c := fun e => by
  rcases h.2 with k | k
  · exact hv (by rw [← k]; exact e)
  · have := k c e
    omega

/-- what the row is not is as it was -/
def BsK (w : World) (v : Value) (w' : World) (v' : Value) : Prop := w.heap.size ≤ w'.heap.size ∧ ∀ c, c < w.heap.size → v.ownBlock ≠ some c → w'.heap[c]? = w.heap[c]? ∧ v'.ownBlock ≠ some c
theorem Up.keep {w w' : World} {v v' : Value} (h : Up w v w' v') : BsK w v w' v' := ⟨h.1.size, fun c hc hv => ⟨h.1.block c hc (fun e => hv e.symm), h.ne hc hv⟩⟩
theorem BsK.refl (w : World) (v : Value) : BsK w v w v := ⟨Nat.le_refl _, fun _ _ h => ⟨rfl, h⟩⟩
theorem BsK.trans {w w1 w2 : World} {v v1 v2 : Value} (h : BsK w v w1 v1) (k : BsK w1 v1 w2 v2) : BsK w v w2 v2 := ⟨Nat.le_trans h.1 k.1, fun c hc hv => by
  obtain ⟨a, b⟩ := h.2 c hc hv
  obtain ⟨a2, b2⟩ := k.2 c (Nat.lt_of_lt_of_le hc h.1) b
  exact ⟨a2.trans a, b2⟩⟩
theorem BsK.alloc (w : World) (v : Value) (o : Obj) : BsK w v (w.alloc o) v := ⟨by simp, fun c hc hv => ⟨Below.heap_alloc w o c hc, hv⟩⟩

/-- bytes that are owned above what there was -/
def BsA (w0 w : World) (v : Value) (l : List UInt8) : Prop := Bs 5 w0.heap.size w v l ∧ Below w0.heap.size w0 w

set_option maxHeartbeats 2000000 in
set_option maxRecDepth 100000 in
theorem layWrites_any {w0 w : World} {a : Option Addr} {len cap : Nat} {ws : List Wr} (h : WrsIs w0 a ws) (hl : ws.length = len) (hle : len ≤ 1000000) (hsz : ∀ x ∈ ws, x.key.size ≤ 5000 ∧ x.val.size ≤ 5000)
    (v : Value) (l : List UInt8) (hll : l.length ≤ 1000000) (hown : BsA w0 w v l) :
    Calls Try.prog 24 #[v, .slice a len cap] w fun e w' => ∃ v', e = .returned v' ∧ BsA w0 w' v' (l ++ octWs ws) ∧ BsK w v w' v' := by
  have h9 := octN_lt len (by omega)
  have hnum := num_nat w0.heap.size v l len (by omega) w (by omega) hown.2.size hown.1
  have HW := Lib.hid h
  have HL := Lib.hid hl
  have HSZ := Lib.hid hsz
  have HU := Lib.hid hown.2
  have HOW := Lib.hid hown
  -- a world of a round
  obtain ⟨L0, hL0⟩ : ∃ L0, L0 = l ++ octN len := ⟨_, rfl⟩
  have HRD : Hid (∀ k, k < len → ∀ (hk : k < ws.length) (wr : World) (x : Value), BsA w0 wr x (L0 ++ (ws.take k).flatMap octW) → ∃ b off, a = some ⟨b, off, none⟩ ∧ WrIn wr b (off + k * 3) ws[k] ∧
      Calls Try.prog 39 #[x, .string ws[k].key] (wr.alloc (.cells (#[.string ws[k].key, .string ws[k].val, .bool ws[k].gone]) 43)) fun e w1 => ∃ v1, e = .returned v1 ∧ w1.cell? ⟨wr.heap.size, 2, none⟩ = some (.bool ws[k].gone) ∧
        Hid (Calls Try.prog 40 #[v1, .bool ws[k].gone] w1 fun e w2 => ∃ v2, e = .returned v2 ∧ w2.cell? ⟨wr.heap.size, 1, none⟩ = some (.string ws[k].val) ∧
          Hid (Calls Try.prog 39 #[v2, .string ws[k].val] w2 fun e w3 => ∃ v3, e = .returned v3 ∧ Hid (BsA w0 w3 v3 (L0 ++ (ws.take (k + 1)).flatMap octW) ∧ BsK wr x w3 v3)))) := Lib.hid fun k hkl hk wr x hx => by
    obtain ⟨b, off, e, hb, hin, _⟩ := HW.out.at_ k hk
    have hin2 : WrIn wr b (off + k * 3) ws[k] := by
      obtain ⟨h0, h1, h2⟩ := hin
      exact ⟨(hx.2.cell (p := ⟨b, _, none⟩) hb).trans h0, (hx.2.cell (p := ⟨b, _, none⟩) hb).trans h1, (hx.2.cell (p := ⟨b, _, none⟩) hb).trans h2⟩
    obtain ⟨y, hy⟩ : ∃ y, y = ws[k] := ⟨_, rfl⟩
    have hys := HSZ.out y (by rw [hy]; exact List.getElem_mem hk)
    have hnx := flat_take ws k hk
    rw [← hy] at hin2 hnx ⊢
    have hfl := flat_len (ws.take k) fun z hz => HSZ.out z (List.mem_of_mem_take hz)
    have hfl2 : (ws.take k).length ≤ len := by rw [List.length_take]; omega
    have hLn : L0.length ≤ 1000100 := by rw [hL0, List.length_append]; omega
    obtain ⟨M, hM⟩ : ∃ M, M = L0 ++ (ws.take k).flatMap octW := ⟨_, rfl⟩
    have hMl : M.length ≤ 1000100 + 10100 * 1000000 := by rw [hM, List.length_append]; have : 10100 * (ws.take k).length ≤ 10100 * 1000000 := Nat.mul_le_mul_left _ (by omega); omega
    rw [← hM] at hx
    have hal : Bs 5 w0.heap.size (wr.alloc (.cells (#[.string y.key, .string y.val, .bool y.gone]) 43)) x M := hx.1.grow (World.grownBy_alloc wr _ none)
    have hbl : Below w0.heap.size w0 (wr.alloc (.cells (#[.string y.key, .string y.val, .bool y.gone]) 43)) := hx.2.alloc hx.2.size _
    have hbx : ∀ i, (wr.alloc (.cells (#[.string y.key, .string y.val, .bool y.gone]) 43)).cell? ⟨wr.heap.size, i, none⟩ = (#[.string y.key, .string y.val, .bool y.gone] : Array Value)[i]? := fun i => cell_of_row _ _ i _ _ (0, 0) (heap_alloc_new wr _)
    have hne : x.ownBlock ≠ some wr.heap.size := fun e => by have := (hx.1.size _ e).2; omega
    have hcl : wr.heap.size < (wr.alloc (.cells (#[.string y.key, .string y.val, .bool y.gone]) 43)).heap.size := by simp
    have hk5 := octT_len y.key hys.1
    refine ⟨b, off, e, hin2, (text_any w0.heap.size x M y.key _ (by omega) hbl.size hal).mono ?_⟩
    rintro e1 w1 ⟨v1, rfl, hown1, hup1⟩
    have hb1 : Below w0.heap.size w0 w1 := hbl.trans (hup1.below hal hbl.size)
    have hz1 := hup1.1.size
    refine ⟨v1, rfl, (hup1.cell hcl hne 2).trans (hbx 2), Lib.hid ((flag_any w0.heap.size v1 _ y.gone w1 (by rw [List.length_append]; omega) hb1.size hown1).mono ?_)⟩
    rintro e2 w2 ⟨v2, rfl, hown2, hup2⟩
    have hb2 : Below w0.heap.size w0 w2 := hb1.trans (hup2.below hown1 hb1.size)
    have hne1 := hup1.ne hcl hne
    have hc1 := (hup2.cell (c := wr.heap.size) (by omega) hne1 1).trans ((hup1.cell hcl hne 1).trans (hbx 1))
    refine ⟨v2, rfl, hc1, Lib.hid ((text_any w0.heap.size v2 _ y.val w2 (by rw [List.length_append, List.length_append]; have : (octF y.gone).length = 1 := rfl; omega) hb2.size hown2).mono ?_)⟩
    rintro e3 w3 ⟨v3, rfl, hown3, hup3⟩
    refine ⟨v3, rfl, Lib.hid ⟨⟨?_, hb2.trans (hup3.below hown2 hb2.size)⟩, (((BsK.alloc wr x _).trans hup1.keep).trans hup2.keep).trans hup3.keep⟩⟩
    rw [hnx, ← List.append_assoc, ← hM]
    unfold octW
    rw [← List.append_assoc, ← List.append_assoc]
    exact hown3
  have HF : Hid (∀ wr x, BsA w0 wr x (L0 ++ (ws.take len).flatMap octW) ∧ BsK w v wr x → BsA w0 wr x (l ++ octWs ws) ∧ BsK w v wr x) := Lib.hid fun wr x ⟨hx, hkk⟩ => by
    refine ⟨?_, hkk⟩
    rw [List.take_of_length_le (by omega), hL0] at hx
    unfold octWs
    rw [hl, ← List.append_assoc]
    exact hx
  have HN : Hid (∀ e w1, NumPost w0.heap.size v l len w e w1 → ∃ v1, e = .returned v1 ∧ Hid (BsA w0 w1 v1 (L0 ++ (ws.take 0).flatMap octW) ∧ BsK w v w1 v1)) := Lib.hid fun e w1 h1 => by
    obtain ⟨v1, rfl, ho, hu⟩ := h1
    refine ⟨v1, rfl, Lib.hid ⟨⟨?_, HU.out.trans (hu.below HOW.out.1 HU.out.size)⟩, hu.keep⟩⟩
    rw [hL0]
    simpa using ho
  clear h hl hsz hown h9 hL0
  go_enter Try.func24, Try.ntmps24
  go_wp2_with fail
  refine hnum.mono ?_
  intro e w1 hp
  obtain ⟨v1, rfl, H1⟩ := HN.out e w1 hp
  clear hp HN hnum
  go_wp2_with fail
  go_loopw [0, 13] (fun x c wr => ∃ k : Nat, k ≤ len ∧ c = .int .i64 (k : Int) ∧ Hid (BsA w0 wr x (L0 ++ (ws.take k).flatMap octW) ∧ BsK w v wr x)) (fun _ c _ => len - (intOf c).toNat)
  case atStart => exact ⟨0, Nat.zero_le _, rfl, H1⟩
  case round =>
    obtain ⟨k, hk, rfl, hst⟩ := hrel
    clear H1
    by_cases hlt : k < len
    · have hk2 : k < ws.length := by rw [HL.out]; exact hlt
      obtain ⟨b, off, rfl, ⟨q0, q1, q2⟩, hc⟩ := HRD.out k hlt hk2 wr u0 hst.out.1
      have HKK := Lib.hid hst.out.2
      have HC := Lib.hid hc
      clear hc HRD hst HF
      go_wp2_with fail
      refine HC.out.mono ?_
      rintro e w2 ⟨v2, rfl, hc2, HC2⟩
      clear HC
      go_wp2_with fail
      refine HC2.out.mono ?_
      rintro e w3 ⟨v3, rfl, hc3, HC3⟩
      clear HC2 hc2
      go_wp2_with fail
      refine HC3.out.mono ?_
      rintro e w4 ⟨v4, rfl, HS⟩
      clear HC3 hc3
      go_wp2
      go_roundw
      case rel => exact ⟨k + 1, by omega, by simp, Lib.hid ⟨HS.out.1, HKK.out.trans HS.out.2⟩⟩
      case measure => simp [intOf]; omega
    · obtain rfl : k = len := by omega
      have HF2 := Lib.hid (HF.out wr u0 hst.out)
      go_wp2
      go_ret
      exact ⟨_, rfl, HF2.out⟩

end Go.Proofs.Ytgpfmhoodohggaa
