/-
  tree: Range: the keys from one on, ahead of another one, told one by one; the contract of its sequence (trees of chains).
-/
import Derived.Test.YtcebnoapgceodaaTFromC
import Derived.Test.YtcebnoapgceodaaRangeR
import Derived.Shelf.Abstract
import Derived.Shelf.RegionOpen
import Derived.OwnWalkIn
import Derived.TacticsInMore
import Derived.LoopNIn
import Derived.LoopIn
import Derived.WalkMore
import Derived.RangeFuncBox
namespace Go.Proofs.Ytcebnoapgceodaa.tC
open Go.RowKit Go.Proofs.Ytcebnoapgceodaa.rgR

set_option linter.unusedVariables false
attribute [local go_sem] Oper.semAt_some

/-- a key stands ahead of the end -/
def toOK (to : ByteArray) (p : KV) : Bool := to.toList == ([] : List UInt8) || Op.bytesLess p.1.toList to.toList

/-- the keys from one on, ahead of another one -/
def rangeK (m : List KV) (key to : ByteArray) : List KV := (fromK m key).takeWhile (toOK to)

theorem rangeK_all {m : List KV} {key to : ByteArray} (h : ∀ p ∈ fromK m key, toOK to p = true) : rangeK m key to = fromK m key := by
  have e := List.takeWhile_append_of_pos (l₂ := []) h
  simpa [rangeK] using e
theorem rangeK_pre {m : List KV} {key to : ByteArray} {pre : List KV} (h : pre <+: fromK m key) (ho : ∀ p ∈ pre, toOK to p = true) : pre <+: rangeK m key to := by
  obtain ⟨post, e⟩ := h
  refine ⟨post.takeWhile (toOK to), ?_⟩
  rw [rangeK, ← e, List.takeWhile_append_of_pos ho]
theorem rangeK_stop {m : List KV} {key to : ByteArray} {ini : List KV} {x : KV} (h : ini ++ [x] <+: fromK m key) (ho : ∀ p ∈ ini, toOK to p = true) (hx : toOK to x = false) : ini = rangeK m key to := by
  obtain ⟨post, e⟩ := h
  rw [rangeK, ← e, List.append_assoc, List.takeWhile_append_of_pos ho]
  simp [hx]

theorem round_wide {n m : Nat} {P : Program} {l : Nat} {f : FuncId} {tmps : Array Value} {assign body : Code} {w : World} {R : Ending → World → Prop} (h : RoundIn Fence.wide n P l f tmps assign body w R) (l' : Nat) :
    RoundIn (Fence.wide.inRound l') m P l f tmps assign body w R := ⟨h.1, fun c cs _ => h.2 c cs (fun d hd => by cases hd)⟩

set_option maxHeartbeats 4000000 in
set_option maxRecDepth 100000 in
theorem range_seq [hd : Inhabited Hd] (n bt bf bk n0 : Nat) (B : Nat → Prop) (t : Nat) (ls : List (List KV)) (key to : ByteArray) (w : World) (Pp : KV → Prop) (hB : ∀ q, B q → q < n0) (hn0 : n0 ≤ w.heap.size) (hT : TreeAt B w t ls) (hV : ∀ p ∈ ls.flatten, IsV p.2) (hPp : ∀ p ∈ ls.flatten, Pp p) (hPV : ∀ p, Pp p → IsV p.2)
    (hbt : w.cell? ⟨bt, 0, none⟩ = some (.pointer (some ⟨t, 2, none⟩))) (hbf : w.cell? ⟨bf, 0, none⟩ = some (.string key)) (hbk : w.cell? ⟨bk, 0, none⟩ = some (.string to)) (hlt : bt < w.heap.size) (hlf : bf < w.heap.size) (hBk : B bk) :
    SeqR Fence.wide n Try.prog 143 #[.pointer (some ⟨bt, 0, none⟩), .pointer (some ⟨bf, 0, none⟩), .pointer (some ⟨bk, 0, none⟩)] (fun x : { p : KV // Pp p } => #[.string x.1.1, x.1.2]) (KpB B n0)
      (fun ys => ys.map Subtype.val = rangeK ls.flatten key to) (fun pre => pre.map Subtype.val <+: rangeK ls.flatten key to) (fromK ls.flatten key).length 1 w := fun l J Jx W hW hJ hJx hY h0 => by
  refine callsIn_wide.2 ?_
  have hlk : bk < w.heap.size := Nat.lt_of_lt_of_le (hB _ hBk) hn0
  have hc1 := (hW.cell (p := ⟨bt, 0, none⟩) hlt).trans hbt
  have hc2 := (hW.cell (p := ⟨bf, 0, none⟩) hlf).trans hbf
  have hc3 := (hW.cell (p := ⟨bk, 0, none⟩) hlk).trans hbk
  have HT := Lib.hid (hT.below hW)
  have hsz := hW.size
  have hl1 : bt < W.heap.size := by omega
  have hl2 : bf < W.heap.size := by omega
  have hl3 : bk < W.heap.size := by omega
  have HJ := Lib.hid hJ
  have HJX := Lib.hid hJx
  have HY := Lib.hid hY
  have H0 := Lib.hid h0
  have HB := Lib.hid hB
  have HV := Lib.hid hV
  have HP := Lib.hid hPp
  have HW := Lib.hid hW
  clear hbt hbf hbk hT hJ hJx hY h0 hB hV hPp hW hlt hlf hlk
  refine (callsIn_wide (n := 3)).1 (callsIn_of_wp_marks Try.func143 rfl trivial ?_)
  simp only [Try.ntmps143, List.size_toArray, List.length_cons, List.length_nil, Nat.reduceAdd, Nat.reduceSub, Array.replicate_succ, Array.replicate_zero, List.push_toArray, List.append_toArray, List.nil_append, List.cons_append]
  refine (wpIn_wide (n := 3)).2 ?_
  go_wp2_with fail
  refine (from_any _ _ _).mono ?_
  rintro e w2 ⟨rfl, hw2⟩
  have HW2 := Lib.hid hw2
  have hsz2 : w2.heap.size = W.heap.size + 3 := by rw [hw2]; simp
  have hb2 : Below W.heap.size W w2 := by
    rw [hw2]
    exact (((Below.refl _ W).alloc (Nat.le_refl _) _).alloc (by simp) _).alloc (by simp; omega) _
  have bY : Boxed w2 W.heap.size 197 (.func (.yield l) #[] #[]) := by
    rw [hw2]
    exact ((Boxed.new W 197 (.func (.yield l) #[] #[])).alloc _).alloc _
  have bT := (Boxed.new (W.alloc (.cells #[.func (.yield l) #[] #[]] 197)) 110 (.pointer (some ⟨t, 2, none⟩))).alloc (.cells #[.string key] 9)
  have bK := Boxed.new ((W.alloc (.cells #[.func (.yield l) #[] #[]] 197)).alloc (.cells #[.pointer (some ⟨t, 2, none⟩)] 110)) 9 (.string key)
  simp only [World.size_alloc] at bT bK
  rw [← hw2] at bT bK
  have HALL := Lib.hid (And.intro hb2 (And.intro bY (And.intro bT bK)))
  clear hb2 bY bT bK hw2
  go_wp2_with fail
  obtain ⟨hb2, bY, bT, bK⟩ := HALL.out
  have hTw : TreeAt B w2 t ls := HT.out.below hb2
  have hcK : w2.cell? ⟨bk, 0, none⟩ = some (.string to) := (hb2.cell (p := ⟨bk, 0, none⟩) hl3).trans hc3
  have hst := seqR_of (from_stops 2 (W.heap.size + 1) (W.heap.size + 1 + 1) n0 B t ls key w2 Pp HB.out (by omega) hTw HV.out HP.out bT.cell bK.cell bT.lt bK.lt)
  refine (wpIn_wide (n := 3)).1 ?_
  refine' wpIn_rangeR rfl (by omega) (gf := 134) (lb := #[.pointer (some ⟨W.heap.size + 1, 0, none⟩), .pointer (some ⟨W.heap.size + 1 + 1, 0, none⟩)]) rfl trivial (enters_of Try.func134 (by kernel_rfl) rfl)
    hst (fun h k => h.trans k) (KpB.turn (by omega)) (Below.refl _ _) (fun _ => rfl)
    (fun pre W' => ((∀ p ∈ pre, toOK to p.1 = true) ∧ Boxed W' W.heap.size 197 (.func (.yield l) #[] #[])) ∧ J pre W' ∧ KpB B n0 w2 W')
    (fun co pre W' => co = .ret ∧ ((∃ ini x, pre = ini ++ [x] ∧ (∀ p ∈ ini, toOK to p.1 = true) ∧ toOK to x.1 = false ∧ J ini W') ∨ ((∀ p ∈ pre, toOK to p.1 = true) ∧ Jx pre W')))
    ?hI ?hIx ?h0 _ ?assign ?body ?done ?stop
  case hI =>
    rintro s X Y row ⟨⟨h1, h2⟩, h3, h4⟩ hg hr
    refine ⟨⟨h1, h2.kept hg fun e => by have := (hr _ e.symm).1; omega⟩, HJ.out s X Y row h3 hg (fun q e => ⟨by have := (hr q e).1; omega, (hr q e).2⟩), h4.trans ⟨hg.size, fun q _ h6 => hg.block q ?_ fun e => by have := (hr q e.symm).1; omega⟩⟩
    have := h4.1
    omega
  case hIx =>
    rintro c s X Y row ⟨rfl, h⟩ hg hr
    refine ⟨rfl, h.imp (fun ⟨ini, x, e, h1, h2, h3⟩ => ⟨ini, x, e, h1, h2, HJ.out ini X Y row h3 hg (fun q e => ⟨by have := (hr q e).1; omega, (hr q e).2⟩)⟩) (fun ⟨h1, h2⟩ => ⟨h1, HJX.out s X Y row h2 hg (fun q e => ⟨by have := (hr q e).1; omega, (hr q e).2⟩)⟩)⟩
  case h0 =>
    refine ⟨⟨by simp, bY⟩, ?_, KpB.refl _ _ _⟩
    rw [HW2.out]
    exact HJ.out.alloc _ (HJ.out.alloc _ (HJ.out.alloc _ H0.out))
  case assign =>
    intro l x W K hK
    gi_wp2
    exact hK
  case body =>
    rintro l' pre x W' ⟨⟨hok, bY'⟩, hj, hk⟩ hlen hbig
    have hcy := bY'.cell
    have hct : W'.cell? ⟨bk, 0, none⟩ = some (.string to) := (hk.cell hBk (HB.out _ hBk)).trans hcK
    obtain ⟨za, zn, zc, hz⟩ : ∃ a n c, x.1.2 = .slice a n c := hPV _ x.2
    obtain ⟨xk, hxk⟩ : ∃ xk, x.1.1 = xk := ⟨_, rfl⟩
    have hsz4 : W.heap.size + 1 ≤ W'.heap.size := by omega
    obtain ⟨fn, tmps, assign, body, hy, hR⟩ := HY.out pre x W' hj hlen hsz4
    rw [hz, hxk] at hy
    simp only [hz, hxk]
    have hxo : toOK to x.1 = (to.toList == ([] : List UInt8) || Op.bytesLess xk.toList to.toList) := by rw [toOK, hxk]
    have HR := Lib.hid hR
    have HXO := Lib.hid hxo
    have HX := Lib.hid (And.intro (And.intro hok bY') (And.intro hj hk))
    have HST := Lib.hid hst
    have HTW := Lib.hid hTw
    clear hxo hok bY' hj hk hR hst hTw hb2 bY bT bK hcK hc1 hc2 hc3 hlen hbig hz hxk hPV
    have fin : ∀ (W3 : World), toOK to x.1 = true → (KeepsFrom W.heap.size W' W3 ∧ SameIn W.heap.size 1 W' W3) → J (pre ++ [x]) W3 → KpB B n0 W' W3 →
        KeepsFrom w2.heap.size W' W3 ∧ KpB B n0 W' W3 ∧ ((∀ p ∈ pre ++ [x], toOK to p.1 = true) ∧ Boxed W3 W.heap.size 197 (.func (.yield l) #[] #[])) ∧ J (pre ++ [x]) W3 ∧ KpB B n0 w2 W3 := fun W3 hxo hk3 hj3 hk5 => by
      obtain ⟨⟨hok, bY'⟩, hj, hk⟩ := HX.out
      exact ⟨keeps_up hk3.1 (by omega), hk5, ⟨fun p hp => (List.mem_append.1 hp).elim (hok p) (fun h => by rw [List.mem_singleton.1 h]; exact hxo), (hk3.2 _ (Nat.le_refl _) (by omega)).trans bY'⟩, hj3, hk.trans hk5⟩
    have FIN := Lib.hid fin
    clear fin
    have fin2 : ∀ (W3 : World), toOK to x.1 = true → (KeepsFrom W.heap.size W' W3 ∧ SameIn W.heap.size 1 W' W3) → Jx (pre ++ [x]) W3 →
        KeepsFrom w2.heap.size W' W3 ∧ (Code.ret = .ret ∧ ((∃ ini y, pre ++ [x] = ini ++ [y] ∧ (∀ p ∈ ini, toOK to p.1 = true) ∧ toOK to y.1 = false ∧ J ini W3) ∨ ((∀ p ∈ pre ++ [x], toOK to p.1 = true) ∧ Jx (pre ++ [x]) W3))) := fun W3 hxo hk3 hj3 => by
      obtain ⟨⟨hok, bY'⟩, hj, hk⟩ := HX.out
      exact ⟨keeps_up hk3.1 (by omega), rfl, .inr ⟨fun p hp => (List.mem_append.1 hp).elim (hok p) (fun h => by rw [List.mem_singleton.1 h]; exact hxo), hj3⟩⟩
    have FIN2 := Lib.hid fin2
    clear fin2
    have fin3 : toOK to x.1 = false → KeepsFrom w2.heap.size W' W' ∧ (Code.ret = .ret ∧ ((∃ ini y, pre ++ [x] = ini ++ [y] ∧ (∀ p ∈ ini, toOK to p.1 = true) ∧ toOK to y.1 = false ∧ J ini W') ∨ ((∀ p ∈ pre ++ [x], toOK to p.1 = true) ∧ Jx (pre ++ [x]) W'))) := fun hxo => by
      obtain ⟨⟨hok, bY'⟩, hj, hk⟩ := HX.out
      exact ⟨KeepsFrom.refl _ _, rfl, .inl ⟨pre, x, rfl, hok, hxo, hj⟩⟩
    have FIN3 := Lib.hid fin3
    clear fin3
    by_cases hte : (to.toList == ([] : List UInt8)) = true
    · have HXT : Hid (toOK to x.1 = true) := Lib.hid (by rw [HXO.out, hte]; rfl)
      gi_wp2
      refine (round_wide HR.out l').mono ?_
      rintro e W3 ⟨hk3, (⟨rfl, hJ5, hk5⟩ | ⟨rfl, hJx5⟩)⟩
      · have F := Lib.hid (FIN.out W3 HXT.out hk3 hJ5 hk5)
        clear hk3 hJ5 hk5
        gi_wp2
        exact ⟨F.out, SameIn.zero _ _ _⟩
      · have F := Lib.hid (FIN2.out W3 HXT.out hk3 hJx5)
        clear hk3 hJx5
        gi_wp2
        exact ⟨⟨F.out.1, rfl, F.out.2.2⟩, SameIn.zero _ _ _⟩
    · have hte2 : (to.toList == ([] : List UInt8)) = false := by simpa using hte
      clear hte
      by_cases hless : Op.bytesLess xk.toList to.toList = true
      · have HXT : Hid (toOK to x.1 = true) := Lib.hid (by rw [HXO.out, hless]; simp)
        gi_wp2
        refine (round_wide HR.out l').mono ?_
        rintro e W3 ⟨hk3, (⟨rfl, hJ5, hk5⟩ | ⟨rfl, hJx5⟩)⟩
        · have F := Lib.hid (FIN.out W3 HXT.out hk3 hJ5 hk5)
          clear hk3 hJ5 hk5
          gi_wp2
          exact ⟨F.out, SameIn.zero _ _ _⟩
        · have F := Lib.hid (FIN2.out W3 HXT.out hk3 hJx5)
          clear hk3 hJx5
          gi_wp2
          exact ⟨⟨F.out.1, rfl, F.out.2.2⟩, SameIn.zero _ _ _⟩
      · have hless2 : Op.bytesLess xk.toList to.toList = false := by simpa using hless
        have HXT : Hid (toOK to x.1 = false) := Lib.hid (by rw [HXO.out, hless2, hte2]; rfl)
        clear hless
        have F := Lib.hid (FIN3.out HXT.out)
        gi_wp2
        refine ⟨(fun f h => by cases h), ?_⟩
        gi_wp2
        exact ⟨⟨F.out.1, rfl, F.out.2.2⟩, SameIn.zero _ _ _⟩
  case done =>
    rintro D ys W'' hD e ⟨⟨hok, _⟩, hj, hk⟩ hK
    have hj2 : J ys (W''.putObj D (.deferred none)) := HJ.out.putObj _ hj (by omega) hK rfl
    have F : Hid ((∃ xs : List { p : KV // Pp p }, xs.map Subtype.val = rangeK ls.flatten key to ∧ J xs (W''.putObj D (.deferred none))) ∨ (∃ pre : List { p : KV // Pp p }, pre.map Subtype.val <+: rangeK ls.flatten key to ∧ Jx pre (W''.putObj D (.deferred none)))) := Lib.hid (.inl ⟨ys, by
        rw [rangeK_all]
        · exact e
        · rw [← e]
          intro p hp
          obtain ⟨q, hq, rfl⟩ := List.mem_map.1 hp
          exact hok q hq, hj2⟩)
    clear hj hj2 hk hok e
    go_wp2
    refine ⟨by simp, .inl ⟨_, _, rfl, run_takeDeferred hK, ?_⟩⟩
    exact ⟨_, results_none rfl _ _ _, ⟨_, rfl⟩, F.out⟩
  case stop =>
    rintro D c pre W'' hD hSp ⟨rfl, h⟩ hK
    have F : Hid ((∃ xs : List { p : KV // Pp p }, xs.map Subtype.val = rangeK ls.flatten key to ∧ J xs (W''.putObj D (.deferred none))) ∨ (∃ pre : List { p : KV // Pp p }, pre.map Subtype.val <+: rangeK ls.flatten key to ∧ Jx pre (W''.putObj D (.deferred none)))) := Lib.hid (by
        have hmem : ∀ l : List { p : KV // Pp p }, (∀ p ∈ l, toOK to p.1 = true) → ∀ p ∈ l.map Subtype.val, toOK to p = true := fun l hl p hp => by
          obtain ⟨q, hq, rfl⟩ := List.mem_map.1 hp
          exact hl q hq
        rcases h with ⟨ini, x, rfl, h1, h2, h3⟩ | ⟨h1, h3⟩
        · refine .inl ⟨ini, ?_, HJ.out.putObj _ h3 (by omega) hK rfl⟩
          rw [List.map_append, List.map_singleton] at hSp
          exact rangeK_stop hSp (hmem ini h1) h2
        · exact .inr ⟨pre, rangeK_pre hSp (hmem pre h1), HJX.out.putObj _ h3 (by omega) hK rfl⟩)
    clear h hSp
    gi_wp2
    refine ⟨by simp, .inl ⟨_, _, rfl, run_takeDeferred hK, ?_⟩⟩
    exact ⟨_, results_none rfl _ _ _, ⟨_, rfl⟩, F.out⟩

end Go.Proofs.Ytcebnoapgceodaa.tC
