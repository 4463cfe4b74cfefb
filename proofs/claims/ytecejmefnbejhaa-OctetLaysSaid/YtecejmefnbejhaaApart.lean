/-
  OctetApart: for every two lists of ints the law's function returns true, and writes nothing that was there.
-/
import Derived.Test.YtecejmefnbejhaaRound
import Derived.Test.YtecejmefnbejhaaIsRow
import Derived.Deep.QuietTactic
import Derived.BigQuiet
namespace Go.Proofs.Ytecejmefnbejhaa.octetApart
open Go.RowKit

theorem add_block (x : Addr) (k : Nat) : (x.add k).block = x.block := by unfold Addr.add; split <;> rfl

def octs (l : List Int) : List UInt8 := l.flatMap fun z => octN z.toNat

theorem octs_take (l : List Int) (k : Nat) (h : k < l.length) : octs (l.take (k + 1)) = octs (l.take k) ++ octN (l[k]).toNat := by
  unfold octs
  rw [List.take_succ_eq_append_getElem h, List.flatMap_append]
  simp

theorem octN_apart (m n : Nat) (hm : m < 2 ^ 64) (hn : n < 2 ^ 64) (r s : List UInt8) (h : octN m ++ r = octN n ++ s) : m = n ∧ r = s := by
  have h1 := numRead_laid m (2 ^ 64) r hm
  have h2 := numRead_laid n (2 ^ 64) s hn
  rw [if_pos (by omega)] at h1 h2
  rw [h, h2] at h1
  simp only [Option.some.injEq, Prod.mk.injEq] at h1
  exact ⟨h1.1.symm, h1.2.symm⟩

theorem octs_apart : ∀ (a b : List Int) (r s : List UInt8), a.length = b.length → (∀ z ∈ a, z ≤ 9223372036854775807) → (∀ z ∈ b, z ≤ 9223372036854775807) → octs a ++ r = octs b ++ s → a.map Int.toNat = b.map Int.toNat ∧ r = s
  | [], [], r, s, _, _, _, h => ⟨rfl, h⟩
  | x :: a, y :: b, r, s, hl, ha, hb, h => by
    have hx := ha x (by simp)
    have hy := hb y (by simp)
    have e : octN x.toNat ++ (octs a ++ r) = octN y.toNat ++ (octs b ++ s) := by
      simpa [octs] using h
    obtain ⟨h1, h2⟩ := octN_apart _ _ (by omega) (by omega) _ _ e
    obtain ⟨h3, h4⟩ := octs_apart a b r s (by simpa using hl) (fun z hz => ha z (by simp [hz])) (fun z hz => hb z (by simp [hz])) h2
    exact ⟨by simp [h1, h3], h4⟩

theorem octs_congr {a b : List Int} (h : a.map Int.toNat = b.map Int.toNat) : octs a = octs b := by
  have e : ∀ l : List Int, octs l = (l.map Int.toNat).flatMap octN := fun l => by simp [octs, List.flatMap_map]
  rw [e a, e b, h]

/-- unlike rows have unlike bytes, and none is the beginning of the other -/
theorem octs_take_eq (a b : List Int) (hl : a.length = b.length) (ha : ∀ z ∈ a, z ≤ 9223372036854775807) (hb : ∀ z ∈ b, z ≤ 9223372036854775807) (n : Nat) (hn : n = min (octs a).length (octs b).length)
    (h : (octs a).take n = (octs b).take n) : a.map Int.toNat = b.map Int.toNat := by
  rcases Nat.le_total (octs a).length (octs b).length with hh | hh
  · have e : n = (octs a).length := by omega
    rw [e, List.take_length] at h
    refine (octs_apart a b ((octs b).drop (octs a).length) [] hl ha hb ?_).1
    rw [h, List.append_nil]
    have : (List.take (octs a).length (octs b)).length = (octs a).length := by simp; omega
    rw [this, List.take_append_drop]
  · have e : n = (octs b).length := by omega
    rw [e, List.take_length] at h
    refine (octs_apart a b [] ((octs a).drop (octs b).length) hl ha hb ?_).1
    rw [← h, List.append_nil]
    have : (List.take (octs b).length (octs a)).length = (octs b).length := by simp; omega
    rw [this, List.take_append_drop]

theorem octs_length (l : List Int) (h : ∀ z ∈ l, z ≤ 9223372036854775807) : (octs l).length ≤ 9 * l.length := by
  induction l with
  | nil => simp [octs]
  | cons x l ih =>
    have h1 := octN_lt x.toNat (by have := h x (by simp); omega)
    have h2 := ih fun z hz => h z (by simp [hz])
    simp only [octs, List.flatMap_cons, List.length_append, List.length_cons] at h2 ⊢
    omega

theorem octs_pos (l : List Int) (h : 0 < l.length) : 0 < (octs l).length := by
  match l, h with
  | x :: l, _ => simp only [octs, List.flatMap_cons, List.length_append, octN_length]; omega

def sameB (a b : List Int) (k : Nat) : Bool := decide ((a.take k).map Int.toNat = (b.take k).map Int.toNat)

theorem sameB_succ (a b : List Int) (k : Nat) (ha : k < a.length) (hb : k < b.length) : sameB a b (k + 1) = (sameB a b k && (((a[k]).toNat : Int) == ((b[k]).toNat : Int))) := by
  unfold sameB
  rw [List.take_succ_eq_append_getElem ha, List.take_succ_eq_append_getElem hb, List.map_append, List.map_append]
  rw [Bool.eq_iff_iff, Bool.and_eq_true, decide_eq_true_eq, decide_eq_true_eq, beq_iff_eq, Int.natCast_inj]
  constructor
  · intro h
    have h1 := List.append_inj h (by simp; omega)
    exact ⟨h1.1, by simpa using h1.2⟩
  · rintro ⟨h1, h2⟩
    rw [h1]
    simp [h2]

/-- they lie in unlike blocks -/
def Far (v u : Value) : Prop := u.ownBlock = none ∨ u.ownBlock ≠ v.ownBlock
theorem Far.symm {v u : Value} (h : Far v u) : Far u v := by
  rcases h with h | h
  · by_cases hv : v.ownBlock = none
    · exact .inl hv
    · exact .inr (by rw [h]; exact hv)
  · exact .inr (Ne.symm h)

theorem empty_row (w : World) (B : Nat) (hB : B ≤ w.heap.size) : Bs 5 B (w.alloc (.cells #[] 5)) (.slice (some ⟨w.heap.size, 0, none⟩) 0 0) [] :=
  World.ownsRow_made w #[] 0 hB (by decide) rfl

set_option maxHeartbeats 2000000 in
theorem walk_some (x y : Addr) (len capx capy : Nat) (zx zy : List Int) (h0 : 0 < len) (h30 : len ≤ 30) (hlx : len ≤ zx.length) (hly : len ≤ zy.length) (w : World)
    (hx : x.block < w.heap.size) (hy : y.block < w.heap.size)
    (hcx : ∀ i, i < zx.length → w.cell? (x.add i) = some (.int .i64 (zx.getD i 0))) (hcy : ∀ i, i < zy.length → w.cell? (y.add i) = some (.int .i64 (zy.getD i 0)))
    (hbx : ∀ z ∈ zx, z ≤ 9223372036854775807) (hby : ∀ z ∈ zy, z ≤ 9223372036854775807) :
    Calls Try.prog 9 #[.slice (some x) len capx, .slice (some y) len capy] w fun e w' => e = .returned (.bool true) ∧ Below w.heap.size w w' := by
  have h0' : ((len : Int) == 0) = false := by rw [beq_eq_false_iff_ne]; omega
  have h30' : ¬ (30 : Int) < (len : Int) := by omega
  go_enter Try.func9, Try.ntmps9
  go_wp2_with fail
  refine (head_any _).mono ?_
  rintro e w1 ⟨rfl, hb1⟩
  go_wp2_with fail
  have hz1 := hb1.size
  have hbw := (hb1.alloc hz1 (.cells #[] 5)).alloc (by simp; omega) (.cells #[] 5)
  go_loopw [5, 6, 7, 31] (fun vx vy sm c wr => ∃ k : Nat, k ≤ len ∧ c = .int .i64 k ∧ Bs 5 w.heap.size wr vx (octs (zx.take k)) ∧ Bs 5 w.heap.size wr vy (octs (zy.take k)) ∧ Far vx vy ∧ sm = .bool (sameB zx zy k) ∧ Below w.heap.size w wr) (fun _ _ _ c _ => len - (intOf c).toNat)
  case atStart =>
    refine ⟨0, Nat.zero_le _, rfl, ?_, ?_, .inr (by simp [Value.ownBlock]), rfl, hbw⟩
    · exact (empty_row w1 _ hz1).alloc _
    · have h := empty_row (w1.alloc (.cells #[] 5)) w.heap.size (by simp; omega)
      simp at h
      exact h
  case round =>
    obtain ⟨k, hk, rfl, hox, hoy, hfar, rfl, hb⟩ := hrel
    have hz := hb.size
    clear hbw hb1 hz1
    by_cases hlt : k < len
    · have ca := hcx k (by omega)
      have cb := hcy k (by omega)
      have htx := octs_take zx k (by omega)
      have hty := octs_take zy k (by omega)
      have hsm := sameB_succ zx zy k (by omega) (by omega)
      have hax := hbx zx[k] (List.getElem_mem _)
      have hay := hby zy[k] (List.getElem_mem _)
      have e1 : zx.getD k 0 = zx[k] := by simp [List.getD, show k < zx.length by omega]
      have e2 : zy.getD k 0 = zy[k] := by simp [List.getD, show k < zy.length by omega]
      rw [e1] at ca
      rw [e2] at cb
      generalize zx[k] = za at ca htx hsm hax
      generalize zy[k] = zb at cb hty hsm hay
      have hlx2 := octs_length (zx.take k) fun z hz => hbx z (List.mem_of_mem_take hz)
      have hly2 := octs_length (zy.take k) fun z hz => hby z (List.mem_of_mem_take hz)
      have hlx3 : (octs (zx.take k)).length < 140737488355000 := by simp at hlx2; omega
      have hly3 : (octs (zy.take k)).length < 140737488355000 := by simp at hly2; omega
      have mx : max za 0 = ((za.toNat : Nat) : Int) := by omega
      have my : max zb 0 = ((zb.toNat : Nat) : Int) := by omega
      generalize hA : za.toNat = A at htx hsm mx
      generalize hC : zb.toNat = C at hty hsm my
      have HTX := Lib.hid htx
      have HTY := Lib.hid hty
      have HSM := Lib.hid hsm
      generalize sameB zx zy k = sb at HSM ⊢
      have ca1 := (hb.cell (p := x.add k) (by rw [add_block]; exact hx)).trans ca
      clear htx hty hsm hlx2 hly2 e1 e2
      go_wp2_with fail
      have hnum := num_any w.heap.size u5 (octs (zx.take k)) za hax wr hlx3 hz hox
      rw [hA] at hnum
      refine hnum.mono ?_
      rintro e w3 ⟨v3, rfl, hox3, hup3⟩
      obtain ⟨hoy3, hfar3⟩ := hoy.kept hup3 hfar
      have hb3 := hb.trans (hup3.below hox hz)
      have hz3 := hb3.size
      have cb3 := (hb3.cell (p := y.add k) (by rw [add_block]; exact hy)).trans cb
      clear hnum hup3 hox hoy hfar hb
      go_wp2_with fail
      have hnum := num_any w.heap.size u6 (octs (zy.take k)) zb hay w3 hly3 hz3 hoy3
      rw [hC] at hnum
      refine hnum.mono ?_
      rintro e w4 ⟨v4, rfl, hoy4, hup4⟩
      obtain ⟨hox4, hfar4⟩ := hox3.kept hup4 (Far.symm hfar3)
      have hb4 := hb3.trans (hup4.below hoy3 hz3)
      have hz4 := hb4.size
      have ca4 := (hb4.cell (p := x.add k) (by rw [add_block]; exact hx)).trans ca
      have cb4 := (hb4.cell (p := y.add k) (by rw [add_block]; exact hy)).trans cb
      clear hnum hup4 hox3 hoy3 hfar3 hb3 ca1 cb3
      go_wp2_with fail
      cases sb
      · go_quiet (fail)
        go_wp2
        go_roundw
        case rel =>
          refine ⟨k + 1, by omega, by go_num, ?_, ?_, Far.symm hfar4, by rw [HSM.out]; rfl, below_drewN hb4 _⟩
          · rw [HTX.out]; exact hox4
          · rw [HTY.out]; exact hoy4
        case measure => simp [intOf]; omega
      · go_quiet (fail)
        go_wp2
        go_roundw
        case rel =>
          refine ⟨k + 1, by omega, by go_num, ?_, ?_, Far.symm hfar4, by rw [HSM.out]; rfl, below_drewN hb4 _⟩
          · rw [HTX.out]; exact hox4
          · rw [HTY.out]; exact hoy4
        case measure => simp [intOf]; omega
    · have hge : ¬ (k : Int) < (len : Int) := by omega
      obtain rfl : k = len := by omega
      have hpx := octs_pos (zx.take k) (by simp; omega)
      have hpy := octs_pos (zy.take k) (by simp; omega)
      have hlx2 := octs_length (zx.take k) fun z hz => hbx z (List.mem_of_mem_take hz)
      have hly2 := octs_length (zy.take k) fun z hz => hby z (List.mem_of_mem_take hz)
      have hteq := octs_take_eq (zx.take k) (zy.take k) (by simp; omega) (fun z hz => hbx z (List.mem_of_mem_take hz)) (fun z hz => hby z (List.mem_of_mem_take hz))
      have hcon := octs_congr (a := zx.take k) (b := zy.take k)
      have hsb : Hid (sameB zx zy k = decide ((zx.take k).map Int.toNat = (zy.take k).map Int.toNat)) := Lib.hid rfl
      have hap := fun h => (octs_apart (zx.take k) (zy.take k) [] [] (by simp; omega) (fun z hz => hbx z (List.mem_of_mem_take hz)) (fun z hz => hby z (List.mem_of_mem_take hz)) h).1
      generalize octs (zx.take k) = lx at hox hpx hlx2 hteq hcon hap
      generalize octs (zy.take k) = ly at hoy hpy hly2 hteq hcon hap
      generalize sameB zx zy k = sb at hsb ⊢
      obtain ⟨gx, capx', rfl⟩ : ∃ g c, u5 = .slice (some ⟨g, 0, none⟩) lx.length c := by
        rcases hox.2 with ⟨_, h⟩ | ⟨g, c, _, h, _⟩
        · omega
        · exact ⟨g, c, h⟩
      obtain ⟨gy, capy', rfl⟩ : ∃ g c, u6 = .slice (some ⟨g, 0, none⟩) ly.length c := by
        rcases hoy.2 with ⟨_, h⟩ | ⟨g, c, _, h, _⟩
        · omega
        · exact ⟨g, c, h⟩
      obtain ⟨n, hn⟩ : ∃ n : Nat, n = min lx.length ly.length := ⟨_, rfl⟩
      have hmin : min (lx.length : Int) (ly.length : Int) = (n : Int) := by omega
      have hE : (lx == ly) = sb := by
        rw [hsb.out, Bool.eq_iff_iff, beq_iff_eq, decide_eq_true_eq]
        exact ⟨fun h => hap (by rw [h]), fun h => hcon h⟩
      have hT : (lx.take n == ly.take n) = sb := by
        rw [hsb.out, Bool.eq_iff_iff, beq_iff_eq, decide_eq_true_eq]
        exact ⟨fun h => hteq n hn h, fun h => by rw [hcon h]⟩
      have hnx : n ≤ lx.length := by omega
      have hny : n ≤ ly.length := by omega
      have hcapx : lx.length ≤ capx' ∧ capx' ≤ maxLen := by
        rcases hox.2 with ⟨_, h⟩ | ⟨g, c, _, h, _, _, h1, h2, _⟩
        · omega
        · simp only [Value.slice.injEq] at h; omega
      have hcapy : ly.length ≤ capy' ∧ capy' ≤ maxLen := by
        rcases hoy.2 with ⟨_, h⟩ | ⟨g, c, _, h, _, _, h1, h2, _⟩
        · omega
        · simp only [Value.slice.injEq] at h; omega
      have cvx := fun q => conv_own (P := Try.prog) 5 w.heap.size (wr.drewN q) 22 9 Try.underlying22 Try.underlying5 Try.underlying9 _ _ (show Bs 5 w.heap.size (wr.drewN q) _ lx from hox)
      have cvy := fun q => conv_own (P := Try.prog) 5 w.heap.size (wr.drewN q) 22 9 Try.underlying22 Try.underlying5 Try.underlying9 _ _ (show Bs 5 w.heap.size (wr.drewN q) _ ly from hoy)
      have tkx : ∀ q, (convert 22 9 (.slice (some ⟨gx, 0, none⟩) n capx')).run Try.prog (wr.drewN q) = .ok (.string ⟨(lx.take n).toArray⟩) (wr.drewN q) := fun q => by
        have hl : (lx.take n).length = n := by simp; omega
        have h := run_convert_bytes_back (P := Try.prog) (wr.drewN q) 22 9 5 ⟨gx, 0, none⟩ capx' (lx.take n) Try.underlying22 Try.underlying5 Try.underlying9 (fun j hj => by
          have h2 := World.ownsRow.cells (show (wr.drewN q).ownsRow w.heap.size 5 1 _ _ _ from hox) (g := gx) rfl j (.int .u8 ((lx.take n)[j].toNat : Int)) (by
            have : j < lx.length := by omega
            simp [Lib.byteCells, this])
          exact h2)
        rw [hl] at h
        exact h
      have tky : ∀ q, (convert 22 9 (.slice (some ⟨gy, 0, none⟩) n capy')).run Try.prog (wr.drewN q) = .ok (.string ⟨(ly.take n).toArray⟩) (wr.drewN q) := fun q => by
        have hl : (ly.take n).length = n := by simp; omega
        have h := run_convert_bytes_back (P := Try.prog) (wr.drewN q) 22 9 5 ⟨gy, 0, none⟩ capy' (ly.take n) Try.underlying22 Try.underlying5 Try.underlying9 (fun j hj => by
          have h2 := World.ownsRow.cells (show (wr.drewN q).ownsRow w.heap.size 5 1 _ _ _ from hoy) (g := gy) rfl j (.int .u8 ((ly.take n)[j].toNat : Int)) (by
            have : j < ly.length := by omega
            simp [Lib.byteCells, this])
          exact h2)
        rw [hl] at h
        exact h
      have hn0 : 0 < n := by omega
      clear hlt hteq hcon hap hsb hn hox hoy hpx hpy
      go_wp2_with fail
      cases sb
      all_goals
        go_quiet ((first | (rw [cvx]; exact ⟨rfl, rfl⟩) | (rw [cvy]; exact ⟨rfl, rfl⟩) | (rw [tkx]; exact ⟨rfl, rfl⟩) | (rw [tky]; exact ⟨rfl, rfl⟩)))
        go_wp2
        go_ret
        exact ⟨rfl, below_drewN hb _⟩

theorem walk_out (a b : Option Addr) (len capx len2 capy : Nat) (h : len ≠ len2 ∨ 30 < len ∨ len = 0) (w : World) :
    Calls Try.prog 9 #[.slice a len capx, .slice b len2 capy] w fun e w' => e = .returned (.bool true) ∧ Below w.heap.size w w' := by
  by_cases h1 : len = len2
  · subst h1
    by_cases h2 : 30 < len
    · have h2' : (30 : Int) < (len : Int) := by omega
      go_enter Try.func9, Try.ntmps9
      go_wp2_with (go_at_call 10; refine (head_any _).mono ?_; rintro e w1 ⟨rfl, hb1⟩)
      go_ret
      exact ⟨rfl, hb1⟩
    · obtain rfl : len = 0 := by omega
      clear h h2
      go_enter Try.func9, Try.ntmps9
      go_wp2_with (go_at_call 10; refine (head_any _).mono ?_; rintro e w1 ⟨rfl, hb1⟩)
      go_ret
      exact ⟨rfl, hb1⟩
  · have h1' : ((len : Int) == (len2 : Int)) = false := by rw [beq_eq_false_iff_ne]; omega
    have h2' : ((len : Int) != (len2 : Int)) = true := by rw [bne, h1']; rfl
    clear h
    go_enter Try.func9, Try.ntmps9
    go_wp2_with (go_at_call 10; refine (head_any _).mono ?_; rintro e w1 ⟨rfl, hb1⟩)
    all_goals go_ret
    all_goals exact ⟨rfl, hb1⟩

theorem wf_le {z : Int} (h : (Lit.int .i64 z).wf = true) : z ≤ 9223372036854775807 := by
  have h : -9223372036854775808 ≤ z ∧ z ≤ 9223372036854775807 := by simpa [Lit.wf, IntKind.min, IntKind.max, IntKind.signed, IntKind.bits] using h
  exact h.2

theorem walk (a : Option Addr) (lena capa : Nat) (za : List Int) (w : World) (wa : IsRow .i64 w a lena capa za) (b : Option Addr) (lenb capb : Nat) (zb : List Int) (wb : IsRow .i64 w b lenb capb zb) :
    Calls Try.prog 9 #[.slice a lena capa, .slice b lenb capb] w fun e w' => e = .returned (.bool true) ∧ Below w.heap.size w w' := by
  by_cases h : lena ≠ lenb ∨ 30 < lena ∨ lena = 0
  · exact walk_out a b lena capa lenb capb h w
  · obtain rfl : lena = lenb := by omega
    rcases wa with ⟨_, hl, _⟩ | ⟨x, rfl, hlx, _, hzx, hcx, hwx⟩
    · omega
    · rcases wb with ⟨_, hl, _⟩ | ⟨y, rfl, hly, _, hzy, hcy, hwy⟩
      · omega
      · refine walk_some x y lena capa capb za zb (by omega) (by omega) (by omega) (by omega) w ?_ ?_ hcx hcy (fun z hz => wf_le (hwx z hz)) (fun z hz => wf_le (hwy z hz))
        · have := World.block_lt_of_cell? w _ (hcx 0 (by omega))
          rwa [add_block] at this
        · have := World.block_lt_of_cell? w _ (hcy 0 (by omega))
          rwa [add_block] at this

end Go.Proofs.Ytecejmefnbejhaa.octetApart
