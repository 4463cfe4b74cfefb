/-
  disk.Clone.
-/
import Derived.Test.YtkeopkhbcmeplaaDFoot
import Derived.Maps.RangeWalk
import Derived.Maps.OwnSet
import Derived.Deep.RegionWith
namespace Go.Proofs.Ytkeopkhbcmeplaa
open Go.RowKit Go.Maps

theorem law_s : Keyed Try.prog 9 := Maps.string_keyed Try.underlying9

/-- the files that are no longer to come -/
def seen (left : Lit → Bool) (gs : List FileS) : List FileS := gs.filter fun f => !left (.string f.name)

theorem put_seen {left : Lit → Bool} : ∀ {gs : List FileS}, RiseF gs → ∀ x ∈ gs, left (.string x.name) = true →
    putF x (seen left gs) = seen (fun z => left z && !z.sameKey (.string x.name)) gs
  | [], _, x, hx, _ => by cases hx
  | y :: r, h, x, hx, hl => by
    have h1 := List.pairwise_cons.1 h
    have hsame : ∀ k : L8, (Lit.string k).sameKey (.string x.name) = (k == x.name) := fun k => by simp [Lit.sameKey]
    -- no file that is seen has x's name
    have hdel : ∀ gs : List FileS, delF x.name (seen left gs) = seen left gs := fun gs => del_off fun f hf e => by
      have := (List.mem_filter.1 hf).2
      rw [e, hl] at this
      simp at this
    unfold putF
    rw [hdel]
    by_cases e : x.name = y.name
    · have hxy : x = y := by
        rcases List.mem_cons.1 hx with h2 | h2
        · exact h2
        · have := h1.1 x h2
          rw [e, show bytesBefore y.name y.name = false from Go.WideAt.bytes_irrefl _] at this
          cases this
      subst hxy
      have e1 : seen left (x :: r) = seen left r := by unfold seen; rw [List.filter_cons, if_neg (by simp [hl])]
      have e2 : seen (fun z => left z && !z.sameKey (.string x.name)) (x :: r) = x :: seen (fun z => left z && !z.sameKey (.string x.name)) r := by unfold seen; rw [List.filter_cons, if_pos (by simp [hsame])]
      have e3 : seen (fun z => left z && !z.sameKey (.string x.name)) r = seen left r := by
        unfold seen
        refine List.filter_congr fun f hf => ?_
        have : f.name ≠ x.name := ne_of_before (h1.1 f hf)
        simp [hsame, this]
      rw [e1, e2, e3, ins_off (gs := seen left r) fun f hf => h1.1 f (List.mem_filter.1 (show f ∈ List.filter _ r from hf)).1]
    · have hxr : x ∈ r := by
        rcases List.mem_cons.1 hx with h2 | h2
        · exact absurd (by rw [h2]) e
        · exact h2
      have hb : bytesBefore y.name x.name = true := h1.1 x hxr
      have ih := put_seen (left := left) h1.2 x hxr hl
      unfold putF at ih
      rw [hdel] at ih
      have hy : (fun z : Lit => left z && !z.sameKey (.string x.name)) (.string y.name) = left (.string y.name) := by
        have e9 : ¬ y.name = x.name := fun h => e h.symm
        simp [hsame, e9]
      cases hly : left (.string y.name) with
      | true =>
        have e1 : seen left (y :: r) = seen left r := by unfold seen; rw [List.filter_cons, if_neg (by simp [hly])]
        have e2 : seen (fun z => left z && !z.sameKey (.string x.name)) (y :: r) = seen (fun z => left z && !z.sameKey (.string x.name)) r := by
          unfold seen; rw [List.filter_cons, if_neg (by rw [hy, hly]; simp)]
        rw [e1, e2, ih]
      | false =>
        have e1 : seen left (y :: r) = y :: seen left r := by unfold seen; rw [List.filter_cons, if_pos (by simp [hly])]
        have e2 : seen (fun z => left z && !z.sameKey (.string x.name)) (y :: r) = y :: seen (fun z => left z && !z.sameKey (.string x.name)) r := by
          unfold seen; rw [List.filter_cons, if_pos (by rw [hy, hly]; rfl)]
        rw [e1, e2, insF, if_neg (by rw [not_both hb]; simp), ih]

theorem seen_all {left : Lit → Bool} {gs : List FileS} (h : ∀ kl, left kl = false) : seen left gs = gs := by
  unfold seen
  exact List.filter_eq_self.2 fun f _ => by rw [h]; rfl

theorem seen_none (gs : List FileS) (fs : List FP) (h : gs = fl fs) : seen (Maps.has (dm (fvals fs))) gs = [] := by
  unfold seen
  refine List.filter_eq_nil_iff.2 fun f hf => ?_
  subst h
  obtain ⟨p, hp, rfl⟩ := fl_mem hf
  have : Maps.has (dm (fvals fs)) (.string p.1.name) = true := by
    unfold dm Maps.has
    simp only [List.any_map, List.any_eq_true]
    exact ⟨(p.1.name, fileV p), List.mem_map_of_mem hp, by simp [Lit.sameKey]⟩
  rw [this]; simp

theorem rv_held {v : Value} {y : DataW Value × List MemPlace} (h : RV v = some y) : y = (.held v, []) := (Option.some.inj h).symm

/-- an entry that has come is a file -/
theorem entry_file {w : World} {B d mb n : Nat} {S : DS} {fs : List FP} (h : DiskAt w B d mb n S fs) {x : ByteArray} {cv : Value} {kl : Lit} {y : DataW Value × List MemPlace} (hkey : keyOf Try.prog 9 (.string x) = some kl) (hR : RV cv = some y) (hat : ∀ zd, (dm (fvals fs)).atKey kl zd = y.1) :
    kl = .string (bl x) ∧ x.size ≤ maxLen ∧ ∃ p a c, p ∈ fs ∧ p.1.name = bl x ∧ p.2 = .slice a p.1.data.length c ∧ cv = .agg #[.slice a p.1.data.length c, .int .i64 p.1.safe] := by
  obtain ⟨s, e1, rfl, hs⟩ := Go.WideMaps.string_of_keyOf Try.underlying9 hkey
  obtain rfl : x = s := by injection e1
  obtain rfl := rv_held hR
  refine ⟨rfl, hs, ?_⟩
  have h1 := hat .nil
  rw [dm_at, fvals_get] at h1
  cases hg : getP x.data.toList fs with
  | none => rw [hg] at h1; cases h1
  | some p =>
    rw [hg] at h1
    have h2 : fileV p = cv := DataW.held.inj h1
    obtain ⟨a, c, e⟩ := Bs.lenEq (h.2.2.1 p (getP_name hg).2)
    refine ⟨p, a, c, (getP_name hg).2, (getP_name hg).1, e, ?_⟩
    rw [← h2]; unfold fileV; rw [e]

set_option maxHeartbeats 4000000 in
set_option maxRecDepth 100000 in
theorem clone_any {B d mb n : Nat} {S : DS} {fs : List FP} (w : World) (h : DiskAt w B d mb n S fs) (hI : Inv S (fl fs)) (hm : fs.length ≤ 100000) :
    Calls Try.prog 18 #[.pointer (some ⟨d, 0, none⟩)] w fun e w' => ∃ c mb2 m cs, e = .returned (.pointer (some ⟨c, 0, none⟩)) ∧ fl cs = fl fs ∧ m ≤ fs.length ∧ DiskAt w' w.heap.size c mb2 m S cs ∧ Below w.heap.size w w' := by
  have hmm := @run_makeMap Try.prog
  obtain ⟨⟨c0, c1, c2, c3, c4, c5⟩, _⟩ := Box.six h.1
  have HH := Lib.hid h
  have hd := h.1.lt
  have HOWN : Hid (∀ W, Below w.heap.size w W → W.ownsMap Try.prog 9 RV mb n (dm (fvals fs))) := Lib.hid fun W hB => h.2.1.kept (hB.block mb h.2.1.lt)
  have HSZ : Hid (Maps.size (dm (fvals fs)) = fs.length) := Lib.hid (size_fs fs)
  obtain ⟨D0, hD0⟩ : ∃ D0, D0 = dm (fvals fs) := ⟨_, rfl⟩
  rw [← hD0] at HOWN HSZ
  have HD0 := Lib.hid hD0
  have hmk : ∀ (L : Int) (W : World), (Instr.makeMap 61 (some (.int .i64 L))).run Try.prog W = .ok (.map (some W.heap.size)) (W.alloc (.map #[] 0)) := fun L W => by kernel_rfl
  clear h hD0
  go_enter Try.func18, Try.ntmps18
  go_wp2_with (first
    | (at_len; refine wpList_len_own _ rfl _ 61 rfl 9 69 Try.underlying61 RV mb n D0 rfl (HOWN.out _ ((Below.refl w.heap.size w).alloc (Nat.le_refl _) _)) ?_)
    | (at_range; refine wpList_range_own _ rfl _ 61 rfl 9 69 law_s Try.underlying61 RV mb n D0 rfl (HOWN.out _ (((Below.refl w.heap.size w).alloc (Nat.le_refl _) _).alloc (by simp) _)) ?_; intro w0 hrg0 hg0 hs0)
    | fail)
  go_frame
  have e1 : ((w.alloc (.cells #[.map (some (w.heap.size + 1)), .int .i64 S.room, .int .i64 S.used, .bool S.falls, .int .i64 S.left, .bool S.down] 63)).alloc (.map #[] 0)).heap.size = w.heap.size + 2 := by simp
  rw [e1] at hrg0 hs0 ⊢
  have HST : Hid (∃ (left : Lit → Bool) (cnt : Nat) (cs : List FP), w0.ranges Try.prog 9 RV mb (w.heap.size + 2) n D0 left cnt ∧ cnt ≤ fs.length ∧ DiskAt w0 w.heap.size w.heap.size (w.heap.size + 1) (fs.length - cnt) S cs ∧ fl cs = seen left (fl fs) ∧ Below w.heap.size w w0) := Lib.hid (by
    have hb1 := (Below.refl w.heap.size w).alloc (Nat.le_refl _) (.cells #[.map (some (w.heap.size + 1)), .int .i64 S.room, .int .i64 S.used, .bool S.falls, .int .i64 S.left, .bool S.down] 63)
    have hb2 := hb1.alloc hb1.size (.map #[] 0)
    have hb3 := hb2.grown hg0 hb2.size (fun q hq => by cases hq)
    have hk : ∀ q, q < w.heap.size + 2 → w0.heap[q]? = ((w.alloc (.cells #[.map (some (w.heap.size + 1)), .int .i64 S.room, .int .i64 S.used, .bool S.falls, .int .i64 S.left, .bool S.down] 63)).alloc (.map #[] 0)).heap[q]? := fun q hq => hg0.block q (by omega) (by simp)
    refine ⟨_, _, [], hrg0, by rw [HSZ.out]; exact Nat.le_refl _, ⟨?_, ?_, (fun p hp => by cases hp), Nat.le_refl _, by omega, by omega, (fun p hp => by cases hp), List.Pairwise.nil⟩, ?_, hb3⟩
    · exact (hk _ (by omega)).trans ((Below.heap_alloc _ _ _ (by simp)).trans (heap_alloc_new w _))
    · have h1 := MapAt.made 9 (w.alloc (.cells #[.map (some (w.heap.size + 1)), .int .i64 S.room, .int .i64 S.used, .bool S.falls, .int .i64 S.left, .bool S.down] 63))
      rw [show (w.alloc (.cells #[.map (some (w.heap.size + 1)), .int .i64 S.room, .int .i64 S.used, .bool S.falls, .int .i64 S.left, .bool S.down] 63)).heap.size = w.heap.size + 1 by simp] at h1
      rw [HSZ.out, Nat.sub_self]
      exact h1.kept (hk _ (by omega))
    · rw [HD0.out, seen_none (fl fs) fs rfl]; rfl)
  clear hrg0 hg0 hs0 e1
  go_loopw [4] (fun _ wr => Hid (∃ (left : Lit → Bool) (cnt : Nat) (cs : List FP), wr.ranges Try.prog 9 RV mb (w.heap.size + 2) n D0 left cnt ∧ cnt ≤ fs.length ∧ DiskAt wr w.heap.size w.heap.size (w.heap.size + 1) (fs.length - cnt) S cs ∧ fl cs = seen left (fl fs) ∧ Below w.heap.size w wr)) (fun _ wr => wr.rangeLeft mb (w.heap.size + 2))
  case atStart => exact HST
  case round =>
    obtain ⟨left, cnt, cs, hrg, hcs, hD, hfl, hbw⟩ := Hid.out hrel
    have HREL := Lib.hid (And.intro hrg (And.intro hcs (And.intro hD (And.intro hfl hbw))))
    clear hrel HST hcs hD hfl hbw c0 c1 c2 c3 c4 c5
    go_wp2_with (first
      | (at_next; refine wpList_next_ranges _ rfl _ rfl 9 law_s RV Value.string (fun v => v) (fun key kl hk => Maps.keyOf_string_inv Try.underlying9 hk) (fun v _ _ => ⟨v, rfl⟩) mb (w.heap.size + 2) n D0 left cnt rfl hrg ?_ ?_)
      | fail)
    · intro hc0 hl0
      have HF : Hid (∃ c mb2 m cs, Ending.returned (.pointer (some ⟨w.heap.size, 0, none⟩)) = .returned (.pointer (some ⟨c, 0, none⟩)) ∧ fl cs = fl fs ∧ m ≤ fs.length ∧ DiskAt wr w.heap.size c mb2 m S cs ∧ Below w.heap.size w wr) := Lib.hid (by
        obtain ⟨_, q1, q2, q3, q4⟩ := HREL.out
        exact ⟨_, _, _, cs, rfl, by rw [q3, seen_all hl0], Nat.sub_le _ _, q2, q4⟩)
      clear hrg hl0 hc0
      go_wp2
      go_ret
      exact HF.out
    · intro x cv kl ya yb w1 cnt1 hkey hlk hRv hat hrg1 hlt hg1 hs1 hen
      obtain ⟨q0, q1, q2, q3, q4⟩ := HREL.out
      rw [HD0.out] at hat
      obtain ⟨rfl, hxs, p, a1, k1, hp, hpn, hp2, rfl⟩ := entry_file HH.out hkey hRv hat
      have hiter : ∃ since sn c9, wr.heap[w.heap.size + 2]? = some (.mapIter (some mb) since sn c9) := by
        obtain ⟨es, clock, since, sn, c9, _, _, _, _, hr, _⟩ := q0
        exact ⟨since, sn, c9, hr⟩
      have hk1 : ∀ q, q < wr.heap.size → q ≠ w.heap.size + 2 → w1.heap[q]? = wr.heap[q]? := fun q hq hne => hg1.block q hq fun e => hne (Option.some.inj e)
      have hD1 : DiskAt w1 w.heap.size w.heap.size (w.heap.size + 1) (fs.length - cnt) S cs := q2.keep fun q hq => hk1 q (q2.foot_lt q hq) fun e => by
        obtain ⟨since, sn, c9, hr⟩ := hiter
        rcases q2.foot_type q hq with ⟨cs', T, fz, e2, _⟩ | ⟨es, c, e2⟩
        · rw [e, hr] at e2; injection e2 with e2; cases e2
        · rw [e, hr] at e2; injection e2 with e2; cases e2
      have hbw1 : Below w.heap.size w w1 := q4.grown hg1 q4.size (fun q hq => by have := Option.some.inj hq; omega)
      have hrow1 : Bs 5 B w1 (.slice a1 p.1.data.length k1) p.1.data := by
        have h1 := HH.out.2.2.1 p hp
        rw [hp2] at h1
        exact bs_keep h1 fun q hq => hbw1.block q (World.ownsRow.lt h1 q hq).2
      have hA : Below w1.heap.size w1 (w1.alloc (.cells #[.slice a1 p.1.data.length k1, .int .i64 p.1.safe] 69)).drew := ((Below.refl _ w1).alloc (Nat.le_refl _) _).drew
      have hbig : p.1.data.length ≤ 140737488355328 := by
        have h1 := hI.fits
        have h2 := hI.room1
        have h3 := hI.used
        have h4 := len_sum (mem_fl hp)
        omega
      have HC := Lib.hid (bclone_any (w1.alloc (.cells #[.slice a1 p.1.data.length k1, .int .i64 p.1.safe] 69)).drew a1 p.1.data.length k1 p.1.data rfl (bs_keep hrow1 fun q hq => hA.block q (World.ownsRow.lt hrow1 q hq).2) hbig)
      have HW4 : Hid (∀ w4 v, Bs 5 (w1.alloc (.cells #[.slice a1 p.1.data.length k1, .int .i64 p.1.safe] 69)).drew.heap.size w4 v p.1.data → Below (w1.alloc (.cells #[.slice a1 p.1.data.length k1, .int .i64 p.1.safe] 69)).drew.heap.size (w1.alloc (.cells #[.slice a1 p.1.data.length k1, .int .i64 p.1.safe] 69)).drew w4 →
          ∃ a2 k2 w5, v = .slice a2 p.1.data.length k2 ∧ (w4.cell? ⟨w1.heap.size, 1, none⟩ = some (.int .i64 p.1.safe) ∧ w4.cell? ⟨w1.heap.size, 0, none⟩ = some (.slice a1 p.1.data.length k1) ∧ w4.cell? ⟨w.heap.size, 0, none⟩ = some (.map (some (w.heap.size + 1)))) ∧
            (Instr.mapUpdate 61 (.map (some (w.heap.size + 1))) (.string x) (.agg #[.slice a2 p.1.data.length k2, .int .i64 p.1.safe])).run Try.prog w4 = .ok () w5 ∧
            Hid (∃ (left : Lit → Bool) (cs : List FP), w5.ranges Try.prog 9 RV mb (w.heap.size + 2) n D0 left cnt1 ∧ cnt1 ≤ fs.length ∧ DiskAt w5 w.heap.size w.heap.size (w.heap.size + 1) (fs.length - cnt1) S cs ∧ fl cs = seen left (fl fs) ∧ Below w.heap.size w w5)) := Lib.hid (by
        intro w4 v hv hb4
        obtain ⟨a2, k2, rfl⟩ := Bs.lenEq hv
        have hb14 : Below w1.heap.size w1 w4 := hA.trans (hb4.mono hA.size)
        have hD4 : DiskAt w4 w.heap.size w.heap.size (w.heap.size + 1) (fs.length - cnt) S cs := hD1.keep fun q hq => hb14.block q (hD1.foot_lt q hq)
        have hfb : w4.heap[w1.heap.size]? = some (.cells #[.slice a1 p.1.data.length k1, .int .i64 p.1.safe] 69 (0, 0)) := (hb4.block w1.heap.size (by show w1.heap.size < (w1.alloc _).heap.size; simp)).trans (heap_alloc_new w1 _)
        obtain ⟨w5, hrun, hm5, hg5⟩ := MapAt.store (e := 69) hD4.2.1 Try.underlying9 Try.underlying61 (by omega) x hxs (.agg #[.slice a2 p.1.data.length k2, .int .i64 p.1.safe])
        have hsz1 := hb14.size
        have hvq : ∀ q, (Value.slice a2 p.1.data.length k2).ownBlock = some q → w1.heap.size < q := fun q hq => by
          have h9 := (World.ownsRow.lt hv q hq).1
          have : (w1.alloc (.cells #[.slice a1 p.1.data.length k1, .int .i64 p.1.safe] 69)).drew.heap.size = w1.heap.size + 1 := by show (w1.alloc _).heap.size = _; simp
          omega
        have hftl := hD1.foot_lt
        have hput := hD4.putted ⟨bl x, p.1.data, p.1.safe⟩ (.slice a2 p.1.data.length k2) (Bs.mono hv (by have := hbw1.size; show w.heap.size ≤ (w1.alloc _).heap.size; simp; omega)) (fun e => by have := hvq _ e; have := hftl _ (.inl rfl); omega) (fun e => by have := hvq _ e; have := hftl _ (.inr (.inl rfl)); omega) (fun r hr => by
          by_cases h0 : (Value.slice a2 p.1.data.length k2).ownBlock = none
          · exact .inl h0
          · refine .inr fun e => ?_
            obtain ⟨g, hg⟩ := Option.ne_none_iff_exists'.1 h0
            have h8 := hvq g hg
            have h9 := hftl g (.inr (.inr ⟨r, delP_mem hr, by rw [← e]; exact hg⟩))
            omega) (by exact hm5) hg5
        have hcx : w4.cell? ⟨w.heap.size, 0, none⟩ = some (.map (some (w.heap.size + 1))) := (Box.six hD4.1).1.1
        refine ⟨a2, k2, w5, rfl, ⟨cell_of_row w4 _ 1 _ _ (0, 0) hfb, cell_of_row w4 _ 0 _ _ (0, 0) hfb, hcx⟩, hrun, Lib.hid ⟨fun z => left z && !z.sameKey (.string (bl x)), _, ?_, by omega, ⟨hput.1, hput.2.1.mono (by omega), hput.2.2⟩, ?_, ?_⟩⟩
        · refine hrg1.kept (w' := w5) (row := some (w.heap.size + 1)) ⟨hg5.os.trans hb14.os, hg5.tape.trans hb14.tape, hg5.output.trans hb14.output, Nat.le_trans hb14.size hg5.size, fun q hq hne => (hg5.block q (by omega) hne).trans (hb14.block q hq)⟩ (fun e => ?_) (fun e => ?_)
          · have := Option.some.inj e
            have := HH.out.2.1.lt
            omega
          · have := Option.some.inj e
            omega
        · rw [fl_put, q3]
          have hpe : (⟨bl x, p.1.data, p.1.safe⟩ : FileS) = p.1 := by rw [← hpn]
          show putF ⟨bl x, p.1.data, p.1.safe⟩ _ = _
          rw [hpe, put_seen hI.rise p.1 (mem_fl hp) (by rw [hpn]; exact hlk), hpn]
        · exact (hbw1.trans (hb14.mono hbw1.size)).grown hg5 (by have := hbw1.size; omega) fun q hq => by have := Option.some.inj hq; omega)
      have c9 : w1.cell? ⟨w.heap.size, 0, none⟩ = some (.map (some (w.heap.size + 1))) := (Box.six hD1.1).1.1
      have hw9 : w.heap.size < w1.heap.size := hD1.foot_lt _ (.inl rfl)
      have HLT : Hid (cnt1 < cnt) := Lib.hid hlt
      have HRG : Hid (wr.rangeLeft mb (w.heap.size + 2) = cnt) := Lib.hid hrg.left_eq
      clear hkey hRv hat hrg1 hlt hg1 hs1 hlk q0 q1 q2 q3 q4 hxs hp hpn hp2 hiter hk1 hD1 hbw1 hrow1 hA hbig hrg HREL
      go_wp2_with fail
      go_region_with ((go_at_call 35; refine HC.out.mono ?_; rintro e w4 ⟨v, rfl, hv4, hb4⟩; obtain ⟨a2, k2, w5, rfl, ⟨y1, y0, y2⟩, hrun5, HF5⟩ := HW4.out w4 v hv4 hb4))
      all_goals
        go_wp2
        go_roundw
        case rel => exact Lib.hid (by obtain ⟨l9, cs9, z0, z1⟩ := HF5.out; exact ⟨l9, cnt1, cs9, z0, z1⟩)
        case measure => obtain ⟨l9, cs9, z0, z1⟩ := HF5.out; rw [z0.left_eq, HRG.out]; exact HLT.out

end Go.Proofs.Ytkeopkhbcmeplaa
