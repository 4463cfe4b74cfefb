/-
  disk.Append: bytes behind a file's, in its own row.
-/
import Derived.Test.YtkeopkhbcmeplaaDSync
namespace Go.Proofs.Ytkeopkhbcmeplaa
open Go.RowKit

theorem infoB : (Try.prog.info? 5).map (fun i => (i.zero, i.size, i.bytes)) = some (some (.int .u8 0), 1, 1) := by kernel_rfl

/-- a text appended: the new row, and the old one, which reads as before -/
theorem app_both (w : World) (B : Nat) (ty : TypeId) (v : Value) (l : List UInt8) (hown : Bs 5 B w v l) (b : ByteArray) (h63 : l.length + b.size ≤ 140737488355328) (hbase : B ≤ w.heap.size) :
    ∃ v' w', (Builtin.append_ #[55, 9] ty #[v, .string b]).run Try.prog w = .ok v' w' ∧ Bs 5 B w' v' (l ++ b.data.toList) ∧ Up w v w' v' ∧ Bs 5 B w' v l := by
  obtain ⟨i, hi, hz, hi1, hi2⟩ := info_parts infoB
  obtain ⟨v', w', hr, ho, hu⟩ := run_app_str (P := Try.prog) w B 55 9 ty 5 i Try.underlying55 Try.underlying9 hi hz hi1 hi2 v l.length (Lib.byteCells l) hown b (by unfold maxLen; omega) h63 hbase
  have hnew : Bs 5 B w' v' (l ++ b.data.toList) := by
    unfold Bs
    rw [Lib.byteCells_append, List.length_append]
    have e : b.data.toList.length = b.size := by rw [Array.length_toList]; rfl
    rw [e]
    exact ho
  refine ⟨v', w', hr, hnew, hu, hown.1, ?_⟩
  rcases hown.2 with ⟨rfl, h0⟩ | ⟨g, cap, cur, rfl, h1, h2, h3, h4, h5, h6⟩
  · exact .inl ⟨rfl, h0⟩
  · by_cases hroom : l.length + b.size ≤ cap
    · have hrr := Lib.run_append_room_string (P := Try.prog) w 55 9 ty 5 i Try.underlying55 Try.underlying9 hi hi1 g l.length cap cur h2 b hroom (by omega)
      rw [hr] at hrr
      simp only [Result.ok.injEq] at hrr
      obtain ⟨rfl, _⟩ := hrr
      rcases ho.2 with ⟨h7, _⟩ | ⟨g', cap', cur', h7, h8, h9, h10, h11, h12, h13⟩
      · cases h7
      · injection h7 with h7 _ h14
        injection h7 with h7
        injection h7 with h7
        subst h7 h14
        refine .inr ⟨g, cap, cur', rfl, h1, h9, h3, h4, h12, ?_⟩
        have h15 := congrArg (List.take (l.length * 1)) h13
        rw [List.take_take, Nat.min_eq_left (by omega)] at h15
        rw [h15, List.take_left' (by simpa using hown.1)]
    · have hrr := Lib.run_append_grow_string (P := Try.prog) w 55 9 ty 5 i (.int .u8 0) Try.underlying55 Try.underlying9 hi hz ⟨g, 0, none⟩ l.length cap (Lib.byteCells l) (by rw [hown.1, hi1]) (hown.cells (g := g) rfl) b (by omega) (by omega) (growslice_fits (by omega) (by rw [hi2]; omega))
      rw [hr] at hrr
      simp only [Result.ok.injEq] at hrr
      obtain ⟨_, rfl⟩ := hrr
      exact .inr ⟨g, cap, cur, rfl, h1, (Below.heap_alloc w.drew _ g (Array.getElem?_eq_some_iff.1 h2).1).trans h2, h3, h4, h5, h6⟩

theorem room_any {B d mb n : Nat} {S : DS} {fs : List FP} (w : World) (h : DiskAt w B d mb n S fs) (h1 : 0 ≤ S.used) (h2 : S.used ≤ 1000000000) (h3 : 0 ≤ S.room) (h4 : S.room ≤ 1000000000) :
    Calls Try.prog 22 #[.pointer (some ⟨d, 0, none⟩)] w fun e w' => e = .returned (.int .i64 (S.room - S.used)) ∧ ∃ q, w' = w.drewN q := by
  obtain ⟨⟨c0, c1, c2, c3, c4, c5⟩, _⟩ := Box.six h.1
  clear h
  have hw : IntKind.i64.wrap (S.room - S.used) = S.room - S.used := by rw [IntKind.wrap_i64]; omega
  go_enter Try.func22, Try.ntmps22
  go_wp2_with fail
  go_quiet (fail)
  go_wp2
  go_ret
  exact ⟨rfl, _, rfl⟩

/-- what a look-up gives: the file's row and what is safe of it; of none: nothing -/
theorem look_any {w : World} {B d mb n : Nat} {S : DS} {fs : List FP} (h : DiskAt w B d mb n S fs) (s : ByteArray) (hs : s.size ≤ maxLen) :
    ∃ (a : Option Addr) (c : Nat) (l : L8) (sf : Nat), (Instr.lookup 61 (.map (some mb)) (.string s) false).run Try.prog w = .ok (.agg #[.slice a l.length c, .int .i64 sf]) w ∧ Bs 5 B w (.slice a l.length c) l ∧
      (Value.slice a l.length c).ownBlock ≠ some d ∧ (Value.slice a l.length c).ownBlock ≠ some mb ∧ (∀ q ∈ delP s.data.toList fs, (Value.slice a l.length c).ownBlock = none ∨ (Value.slice a l.length c).ownBlock ≠ q.2.ownBlock) ∧ lenOf s.data.toList fs = l.length ∧
      (getP s.data.toList fs = none ∧ l = [] ∧ sf = 0 ∧ a = none ∨ ∃ p, getP s.data.toList fs = some p ∧ l = p.1.data ∧ sf = p.1.safe ∧ p.2 = .slice a l.length c) := by
  have hr := MapAt.look (e := 69) h.2.1 Try.underlying9 Try.underlying61 (zeroFile w) s hs false
  rw [fvals_get] at hr
  cases hg : getP s.data.toList fs with
  | none =>
    rw [hg] at hr
    exact ⟨none, 0, [], 0, hr, Bs.nil _ _ _, by simp [Value.ownBlock], by simp [Value.ownBlock], fun q _ => .inl rfl, by unfold lenOf; rw [hg]; rfl, .inl ⟨rfl, rfl, rfl, rfl⟩⟩
  | some p =>
    rw [hg] at hr
    have hm := (getP_name hg).2
    have hrow := h.2.2.1 p hm
    have hown := h.2.2.2.2.2.2.1 p hm
    have hoth := h.other hg
    obtain ⟨a, c, e⟩ := Bs.lenEq hrow
    have e2 : fileV p = .agg #[.slice a p.1.data.length c, .int .i64 p.1.safe] := by unfold fileV; rw [e]
    rw [e] at hrow hown hoth
    refine ⟨a, c, p.1.data, p.1.safe, by rw [← e2]; exact hr, hrow, hown.1, hown.2, hoth, by unfold lenOf; rw [hg], .inr ⟨p, rfl, rfl, rfl, e⟩⟩

theorem same_row : ∀ {fs : List FP}, fs.Pairwise (fun a b => a.2.ownBlock = none ∨ a.2.ownBlock ≠ b.2.ownBlock) → ∀ a ∈ fs, ∀ b ∈ fs, a.2.ownBlock ≠ none → a.2.ownBlock = b.2.ownBlock → a = b
  | [], _, a, ha, _, _, _, _ => by cases ha
  | x :: r, h, a, ha, b, hb, hn, he => by
    have h1 := List.pairwise_cons.1 h
    rcases List.mem_cons.1 ha with ea | ha2
    · rcases List.mem_cons.1 hb with eb | hb2
      · rw [ea, eb]
      · rw [ea] at hn he
        rcases h1.1 b hb2 with h2 | h2
        · exact absurd h2 hn
        · exact absurd he h2
    · rcases List.mem_cons.1 hb with eb | hb2
      · rw [eb] at he
        rcases h1.1 a ha2 with h2 | h2
        · exact absurd (he.trans h2) hn
        · exact absurd he.symm h2
      · exact same_row h1.2 a ha2 b hb2 hn he

/-- the disk behind an append to one of its rows -/
theorem DiskAt.upd {w w' : World} {B d mb n : Nat} {S : DS} {fs : List FP} (h : DiskAt w B d mb n S fs) {v v' : Value} (hu : Up w v w' v') (hd : v.ownBlock ≠ some d) (hm : v.ownBlock ≠ some mb)
    (hv : v.ownBlock = none ∨ ∃ p ∈ fs, p.2 = v ∧ Bs 5 B w' v p.1.data) : DiskAt w' B d mb n S fs := by
  have hft := h.foot_lt
  obtain ⟨h1, h2, h3, h4⟩ := h
  have hk : ∀ q, q < w.heap.size → v.ownBlock ≠ some q → w'.heap[q]? = w.heap[q]? := fun q hq hne => hu.1.block q hq (fun e => hne e.symm)
  refine ⟨(hk d h1.lt hd).trans h1, h2.kept (hk mb h2.lt hm), fun p hp => ?_, h4⟩
  by_cases he : p.2.ownBlock = v.ownBlock
  · rcases hv with hv | ⟨p0, hp0, e0, hb0⟩
    · exact bs_keep (h3 p hp) fun q hq => by rw [he, hv] at hq; cases hq
    · by_cases hn : p.2.ownBlock = none
      · exact bs_keep (h3 p hp) fun q hq => by rw [hn] at hq; cases hq
      · have := same_row h4.2.2.2.2 p hp p0 hp0 hn (by rw [e0]; exact he)
        subst this
        rw [e0]; exact hb0
  · exact bs_keep (h3 p hp) fun q hq => hk q (World.ownsRow.lt (h3 p hp) q hq).2 (fun e => he (by rw [hq, e]))

end Go.Proofs.Ytkeopkhbcmeplaa
