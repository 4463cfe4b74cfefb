/-
  TreeVals: what belongs to a key is what was put last.
-/
import Derived.Test.YtdijbgkfdfchoaaTHead
import Derived.Test.YtdijbgkfdfchoaaTPutNS
import Derived.Test.YtdijbgkfdfchoaaTGetS
import Derived.Test.YtdijbgkfdfchoaaTMapMS
import Derived.Test.YtdijbgkfdfchoaaTRow
import Derived.Maps.RangeWalk
import Derived.Maps.OwnSet
namespace Go.Proofs.Ytdijbgkfdfchoaa.treeVals
open Go.RowKit Go.Proofs.Ytdijbgkfdfchoaa.tS Go.Proofs.Ytdijbgkfdfchoaa.tRow

set_option linter.unusedVariables false
set_option linter.unusedSimpArgs false

/-- the tree's blocks: all from n on but the map's -/
def BV (n : Nat) : Nat → Prop := fun q => n ≤ q ∧ q ≠ n + 1

def St (w1 : World) (k : Nat) (wr : World) : Prop :=
  Below w1.heap.size w1 wr ∧ ∃ ls, TreeAt (BV w1.heap.size) wr w1.heap.size ls ∧ MapAt 9 wr (w1.heap.size + 1) k (toF ls.flatten) ∧ total ls ≤ k ∧ ∀ p ∈ ls.flatten, ∃ z, p.2 = .string z

theorem put_mem {m : List KV} {key : ByteArray} {v : Value} : ∀ p ∈ putK m key v, p ∈ m ∨ p = (key, v) := by
  intro p hp
  unfold putK at hp
  rcases List.mem_append.1 hp with h | h
  · exact .inl (List.mem_filter.1 h).1
  · rcases List.mem_cons.1 h with h | h
    · exact .inr h
    · exact .inl (List.mem_filter.1 h).1
theorem two_filters {α : Type} (f g : α → Bool) (h : ∀ x, f x = true → g x = false) : ∀ m : List α, (m.filter f).length + (m.filter g).length ≤ m.length
  | [] => by simp
  | x :: r => by
    have ih := two_filters f g h r
    by_cases hf : f x = true
    · rw [List.filter_cons_of_pos hf, List.filter_cons_of_neg (by rw [h x hf]; simp)]
      simp only [List.length_cons]; omega
    · rw [List.filter_cons_of_neg hf]
      by_cases hg : g x = true
      · rw [List.filter_cons_of_pos hg]
        simp only [List.length_cons]; omega
      · rw [List.filter_cons_of_neg hg]
        simp only [List.length_cons]; omega
theorem put_length {m : List KV} {key : ByteArray} {v : Value} : (putK m key v).length ≤ m.length + 1 := by
  unfold putK
  rw [List.length_append, List.length_cons]
  exact Nat.succ_le_succ (two_filters _ _ (fun p hp => decide_eq_false (not_lt_of (of_decide_eq_true hp))) m)

theorem zero_s (w : World) : (zeroValue 9).run Try.prog w = .ok (.string ⟨#[]⟩) w := Try.zeroValue9 w

/-- one key put, and noted -/
theorem St.step {w1 wr : World} {k : Nat} (h : St w1 k wr) (hk : k < 60) (key v : ByteArray) (hks : key.size ≤ 40) :
    ∃ (z : Value) (b : Bool), (Instr.lookup 56 (.map (some (w1.heap.size + 1))) (.string key) true).run Try.prog wr = .ok (.tuple #[z, .bool b]) wr ∧
      Calls Try.prog 20 #[.pointer (some ⟨w1.heap.size, 0, none⟩), .string key, .string v] wr fun e w3 => e = .returned (.bool b) ∧
        ∃ w4, (Instr.mapUpdate 56 (.map (some (w1.heap.size + 1))) (.string key) (.string v)).run Try.prog w3 = .ok () w4 ∧ St w1 (k + 1) w4 := by
  obtain ⟨hb, ls, hT, hM, hn, hz⟩ := h
  have hlk := hM.look Try.underlying9 Try.underlying56 (zero_s wr) key (by unfold maxLen; omega) true
  rw [if_pos rfl, get_map] at hlk
  refine ⟨_, _, hlk, (put_any hT (by omega) key v).mono ?_⟩
  rintro e w3 ⟨rfl, hx, ls', hT', hf'⟩
  refine ⟨rfl, ?_⟩
  have hlt := hT.lt
  have hml := hM.lt
  have hM3 : MapAt 9 w3 (w1.heap.size + 1) k (toF ls.flatten) := hM.kept (hx.2.2.2.2 _ hml fun hB => hB.2 rfl)
  obtain ⟨w4, hr, hM4, hg⟩ := hM3.store Try.underlying9 Try.underlying56 (by omega) key (by unfold maxLen; omega) (.string v)
  rw [put_map hT.2.1.2, ← hf'] at hM4
  have hbx : Below w1.heap.size wr w3 := by
    obtain ⟨x1, x2, x3, x4, x5⟩ := hx
    exact ⟨x1, x2, x3, x4, fun q hq => x5 q (Nat.lt_of_lt_of_le hq hb.size) fun hB => by have := hB.1; omega⟩
  refine ⟨w4, hr, (hb.trans hbx).grown hg (hb.trans hbx).size (fun q hq => by have := Option.some.inj hq; omega), ls', hT'.keep fun q hq hl => ?_, hM4, ?_, ?_⟩
  · have hq2 : q ≠ w1.heap.size + 1 := by
      rcases hq with h | h
      · exact h.2
      · omega
    refine ⟨hg.block q hl fun e => hq2 (Option.some.inj e), ?_, hq2⟩
    rcases hq with h | h
    · exact h.1
    · omega
  · have h1 : total ls' = (putK ls.flatten key (.string v)).length := by unfold total; rw [hf']
    have h2 := put_length (m := ls.flatten) (key := key) (v := .string v)
    have h3 : total ls = ls.flatten.length := rfl
    omega
  · rw [hf']
    intro p hp
    rcases put_mem p hp with h | h
    · exact hz p h
    · exact ⟨v, by rw [h]⟩

theorem law_s : Maps.Keyed Try.prog 9 := Maps.string_keyed Try.underlying9

/-- the second loop's world: the map gone through as far as that -/
def St2 (w1 : World) (R n : Nat) (ls : List (List KV)) (left : Lit → Bool) (cnt : Nat) (wr : World) : Prop :=
  Below w1.heap.size w1 wr ∧ TreeAt (fun q => BV w1.heap.size q ∧ q < R) wr w1.heap.size ls ∧ wr.ranges Try.prog 9 RV (w1.heap.size + 1) R n (dm (toF ls.flatten)) left cnt

theorem St.range {w1 wr w0 : World} {k : Nat} {ls : List (List KV)} (hb : Below w1.heap.size w1 wr) (hT : TreeAt (BV w1.heap.size) wr w1.heap.size ls) {n : Nat} {left : Lit → Bool} {cnt : Nat}
    (hrg : w0.ranges Try.prog 9 RV (w1.heap.size + 1) wr.heap.size n (dm (toF ls.flatten)) left cnt) (hg : wr.grownBy w0 none) : St2 w1 wr.heap.size n ls left cnt w0 :=
  ⟨hb.grown hg hb.size (fun q hq => by cases hq), hT.keep fun q hq hl => ⟨hg.block q hl (by simp), hq, hl⟩, hrg⟩

theorem St2.next {w1 wr w2 : World} {R n : Nat} {ls : List (List KV)} {left left' : Lit → Bool} {cnt cnt' : Nat} (h : St2 w1 R n ls left cnt wr) (hR : w1.heap.size ≤ R)
    (hrg : w2.ranges Try.prog 9 RV (w1.heap.size + 1) R n (dm (toF ls.flatten)) left' cnt') (hg : wr.grownBy w2 (some R)) : St2 w1 R n ls left' cnt' w2 :=
  ⟨h.1.grown hg h.1.size (fun q hq => by have := Option.some.inj hq; omega), h.2.1.keep fun q hq hl => ⟨hg.block q hl (fun e => by have := Option.some.inj e; omega), hq⟩, hrg⟩

theorem St2.below {w1 wr w2 : World} {R n : Nat} {ls : List (List KV)} {left : Lit → Bool} {cnt : Nat} (h : St2 w1 R n ls left cnt wr) (hb : Below wr.heap.size wr w2) : St2 w1 R n ls left cnt w2 :=
  ⟨h.1.trans (hb.mono h.1.size), h.2.1.below hb, h.2.2.kept (below_grown hb) (by simp) (by simp)⟩

set_option maxHeartbeats 4000000 in
set_option maxRecDepth 100000 in
theorem walk {w : World} (a0 : Option Addr) (len0 cap0 : Nat) (hr0 : ∃ ps, Came w a0 len0 cap0 ps) (a1 : Option Addr) (len1 cap1 : Nat) (hr1 : ∃ ps, Came w a1 len1 cap1 ps) :
    Calls Try.prog 8 #[.slice a0 len0 cap0, .slice a1 len1 cap1] w fun e W' => e = .returned (.bool true) ∧ Below w.heap.size w W' := by
  obtain ⟨ps0, hs0, hl0, _, hm0, _, hz0⟩ := hr0
  obtain ⟨ps1, hs1, hl1, _, hm1, _, hz1⟩ := hr1
  have hhead := tI.head_any w
  -- what is read of the arguments
  have HA : Hid (∀ W, Below w.heap.size w W → ∀ k (hk : k < len0) (hk2 : k < ps0.length), ∃ b off, a0 = some ⟨b, off, none⟩ ∧ W.cell? ⟨b, off + k, none⟩ = some (.string ps0[k])) := Lib.hid fun W hb k hk hk2 => by
    rcases hs0 with h | ⟨b, off, e, hlt, hc⟩
    · rw [h] at hk2; simp at hk2
    · exact ⟨b, off, e, (hb.cell (p := ⟨b, off + k, none⟩) hlt).trans (hc k hk2)⟩
  have HV : Hid (∀ W, Below w.heap.size w W → ∀ k (hk : k < len1) (hk2 : k < ps1.length), ∃ b off, a1 = some ⟨b, off, none⟩ ∧ W.cell? ⟨b, off + k, none⟩ = some (.string ps1[k])) := Lib.hid fun W hb k hk hk2 => by
    rcases hs1 with h | ⟨b, off, e, hlt, hc⟩
    · rw [h] at hk2; simp at hk2
    · exact ⟨b, off, e, (hb.cell (p := ⟨b, off + k, none⟩) hlt).trans (hc k hk2)⟩
  have HL0 := Lib.hid hl0
  have HL1 := Lib.hid hl1
  clear hs0 hs1 hz0 hz1 hl0 hl1
  by_cases h60 : 60 < len0
  · go_enter Try.func8, Try.ntmps8
    go_wp2_with fail
    refine hhead.mono ?_
    rintro e w1 ⟨rfl, hb1⟩
    have HB1 := Lib.hid hb1
    clear hb1 hhead
    go_wp2
    all_goals
      go_ret
      exact ⟨rfl, HB1.out⟩
  by_cases h61 : 60 < len1
  · go_enter Try.func8, Try.ntmps8
    go_wp2_with fail
    refine hhead.mono ?_
    rintro e w1 ⟨rfl, hb1⟩
    have HB1 := Lib.hid hb1
    clear hb1 hhead
    go_wp2
    all_goals
      go_ret
      exact ⟨rfl, HB1.out⟩
  have h60' : ¬ (60 : Int) < (len0 : Int) := by omega
  have h61' : ¬ (60 : Int) < (len1 : Int) := by omega
  go_enter Try.func8, Try.ntmps8
  go_wp2_with fail
  refine hhead.mono ?_
  rintro e w1 ⟨rfl, hb1⟩
  have HB1 := Lib.hid hb1
  clear hb1 hhead
  have HST : Hid (St w1 0 ((w1.alloc (.cells #[.slice none 0 0, .int .i64 0] 55)).alloc (.map #[] 0))) := Lib.hid (by
    have hb := ((Below.refl _ w1).alloc (Nat.le_refl _) (.cells #[.slice none 0 0, .int .i64 0] 55)).alloc (by simp) (.map #[] 0)
    have hM := MapAt.made 9 (w1.alloc (.cells #[.slice none 0 0, .int .i64 0] 55))
    rw [World.size_alloc] at hM
    refine ⟨hb, [], ?_, hM, by decide, by simp⟩
    refine ⟨⟨Nat.le_refl _, by omega⟩, ⟨by simp, List.Pairwise.nil⟩, by decide, .slice none 0 0, [], ⟨Nat.le_refl _, by omega⟩, (Box.new _ _ _).alloc _, ⟨⟨rfl, .inl ⟨rfl, rfl⟩⟩, by simp⟩, by simp [Value.ownBlock], trivial, List.Pairwise.nil⟩)
  have hmm := @run_makeMap Try.prog
  go_wp2_with fail
  go_loopw [31] (fun i wr => ∃ k, k ≤ len0 ∧ i = .int .i64 (k : Int) ∧ Hid (St w1 k wr)) (fun i _ => len0 - (intOf i).toNat)
  case atStart => exact ⟨0, Nat.zero_le _, rfl, HST⟩
  case round =>
    obtain ⟨k, hk, rfl, hst⟩ := hrel
    clear HST
    by_cases hlt : k < len0
    · have hbw := HB1.out.trans (hst.out.1.mono HB1.out.size)
      have hk2 : k < ps0.length := by rw [HL0.out]; exact hlt
      obtain ⟨b, off, rfl, hcell⟩ := HA.out wr hbw k hlt hk2
      obtain ⟨key, hkey⟩ : ∃ key, key = ps0[k] := ⟨_, rfl⟩
      rw [← hkey] at hcell
      have HF := Lib.hid hbw
      clear hbw hkey HA
      by_cases hks : key.size ≤ 40
      · have hks' : ¬ (40 : Int) < (key.size : Int) := by omega
        by_cases hv : k < len1
        · have hvI : (k : Int) < (len1 : Int) := by omega
          obtain ⟨b2, off2, rfl, hcell2⟩ := HV.out wr HF.out k hv (by rw [HL1.out]; exact hv)
          obtain ⟨v, hvv⟩ : ∃ v, v = ps1[k]'(by rw [HL1.out]; exact hv) := ⟨_, rfl⟩
          rw [← hvv] at hcell2
          obtain ⟨z, bb, hlk, hput⟩ := hst.out.step (by omega) key v hks
          have HP := Lib.hid hput
          clear hput hvv HV
          go_wp2_with fail
          refine HP.out.mono ?_
          rintro e w3 ⟨rfl, w4, hmu, hst4⟩
          have HS4 := Lib.hid hst4
          clear hst4 HP
          go_wp2
          go_roundw
          case rel => exact ⟨k + 1, by omega, by simp, HS4⟩
          case measure => simp [intOf]; omega
        · have hvI : ¬ (k : Int) < (len1 : Int) := by omega
          obtain ⟨z, bb, hlk, hput⟩ := hst.out.step (by omega) key ⟨#[]⟩ hks
          have HP := Lib.hid hput
          clear hput HV
          go_wp2_with fail
          refine HP.out.mono ?_
          rintro e w3 ⟨rfl, w4, hmu, hst4⟩
          have HS4 := Lib.hid hst4
          clear hst4 HP
          go_wp2
          go_roundw
          case rel => exact ⟨k + 1, by omega, by simp, HS4⟩
          case measure => simp [intOf]; omega
      · have hks' : (40 : Int) < (key.size : Int) := by omega
        clear hst HV
        go_wp2
        all_goals
          go_ret
          exact ⟨rfl, HF.out⟩
    · obtain rfl : k = len0 := by omega
      obtain ⟨hb, ls, hT, hM, hn, hz⟩ := hst.out
      have HZ := Lib.hid hz
      have HT := Lib.hid (And.intro hb hT)
      have hRR : w1.heap.size ≤ wr.heap.size := hb.size
      have hown : wr.ownsMap Try.prog 9 RV (w1.heap.size + 1) k (dm (toF ls.flatten)) := hM
      clear hst hz hb hT hM HA HV
      go_wp2_with (first
        | (at_range; refine wpList_range_own _ rfl _ 56 rfl 9 9 law_s Try.underlying56 RV (w1.heap.size + 1) k (dm (toF ls.flatten)) rfl hown ?_; intro w0 hrg0 hg0 hs0)
        | fail)
      go_frame
      have HS2 : Hid (∃ left cnt, St2 w1 wr.heap.size k ls left cnt w0) := Lib.hid ⟨_, _, St.range (k := k) HT.out.1 HT.out.2 hrg0 hg0⟩
      obtain ⟨R, hR⟩ : ∃ R, R = wr.heap.size := ⟨_, rfl⟩
      rw [← hR] at HS2 hRR ⊢
      clear hrg0 hg0 hs0 hown HT hR
      go_loopw [12] (fun _ wr2 => Hid (∃ left cnt, St2 w1 R k ls left cnt wr2)) (fun _ wr2 => wr2.rangeLeft (w1.heap.size + 1) R)
      case atStart => exact HS2
      case round =>
        obtain ⟨left, cnt, hS⟩ := Hid.out hrel
        have HS := Lib.hid hS
        have hrg := hS.2.2
        have HLE := Lib.hid hrg.left_eq
        clear hrel HS2 hS
        go_wp2_with (first
          | (at_next; refine wpList_next_ranges _ rfl _ rfl 9 law_s RV Value.string (fun v => v) (fun key kl hk => by obtain ⟨s, e1, _, _⟩ := Go.WideMaps.string_of_keyOf Try.underlying9 hk; exact ⟨s, e1⟩) (fun v _ _ => ⟨v, rfl⟩) (w1.heap.size + 1) R k (dm (toF ls.flatten)) left cnt rfl hrg ?_ ?_)
          | fail)
        · intro hc0 hl0
          have hlen := len_any HS.out.2.1
          have hown := hrg.owns
          have hmz : Maps.size (dm (toF ls.flatten)) = total ls := toF_length_map ls.flatten
          have HBF : Hid (Below w.heap.size w wr) := Lib.hid (HB1.out.trans (HS.out.1.mono HB1.out.size))
          clear hrg HS hc0 hl0
          go_wp2_with fail
          refine hlen.mono ?_
          rintro e w3 ⟨rfl, rfl⟩
          go_wp2_with (first
            | (at_len; refine wpList_len_own _ rfl _ 56 rfl 9 9 Try.underlying56 RV (w1.heap.size + 1) k (dm (toF ls.flatten)) rfl hown ?_; rw [hmz])
            | fail)
          go_ret
          exact ⟨rfl, HBF.out⟩
        · intro x cv kl ya yb w2 cnt1 hkey hlk hRv hat hrg1 hlt hg1 hs1 hen
          obtain ⟨rfl, hxs, hget⟩ := entry_map hkey hRv hat
          obtain ⟨zv, hzv⟩ := HZ.out _ (getK_mem hget)
          dsimp only at hzv
          subst hzv
          have hS2 := HS.out.next hRR hrg1 hg1
          have hg := get_any hS2.2.1 x
          rw [hget] at hg
          have HS9 := Lib.hid hS2
          have HLT := Lib.hid hlt
          clear hkey hlk hRv hat hrg1 hlt hg1 hs1 hget hS2 hrg HS
          go_wp2_with fail
          refine hg.mono ?_
          rintro e w3 ⟨rfl, hb3⟩
          have HS10 := Lib.hid (HS9.out.below hb3)
          clear hb3 HS9 hg
          go_wp2
          exact ⟨Lib.hid ⟨_, _, HS10.out⟩, by rw [HS10.out.2.2.left_eq, HLE.out]; exact HLT.out⟩

end Go.Proofs.Ytdijbgkfdfchoaa.treeVals
