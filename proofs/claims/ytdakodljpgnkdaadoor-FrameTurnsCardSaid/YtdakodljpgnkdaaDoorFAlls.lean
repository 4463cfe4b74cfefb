/-
  FrameAlls: for every input the law's function returns true, and writes nothing that was there.
-/
import Derived.Test.YtdakodljpgnkdaaDoorFAll
import Derived.Test.YtdakodljpgnkdaaDoorFGets
import Derived.Test.YtdakodljpgnkdaaDoorOrder
namespace Go.Proofs.YtdakodljpgnkdaaDoor.frameAlls
open Go.RowKit Go.Proofs.YtdakodljpgnkdaaDoor.tRow

theorem infoI : (Tryd.prog.info? 3).map (fun i => (i.zero, i.size, i.bytes)) = some (some (.int .i64 0), 1, 8) := by kernel_rfl

/-- 'v' owns the ints 'ns' -/
def Ns (B : Nat) (w : World) (v : Value) (ns : List Nat) : Prop := w.ownsRow B 3 1 v ns.length (ns.map fun n => Value.int .i64 (n : Nat))

theorem ns_new (w : World) (B : Nat) (n : Nat) (hB : B ≤ w.heap.size) : Ns B (w.alloc (.cells #[.int .i64 (n : Nat)] 3)) (.slice (some ⟨w.heap.size, 0, none⟩) 1 1) [n] :=
  World.ownsRow_lit w #[.int .i64 (n : Nat)] 1 hB (by decide) rfl

theorem Ns.below {B : Nat} {w w' : World} {v : Value} {ns : List Nat} (h : Ns B w v ns) (hb : Below w.heap.size w w') : Ns B w' v ns :=
  World.ownsRow.kept (row := none) h ⟨hb.os, hb.tape, hb.output, hb.size, fun j hj _ => hb.block j hj⟩ (by
    by_cases hv : v.ownBlock = none
    · exact .inl hv
    · exact .inr hv)

theorem ss_below {B : Nat} {w w' : World} {v : Value} {ps : List ByteArray} (h : Ss B w v ps) (hb : Below w.heap.size w w') : Ss B w' v ps :=
  World.ownsRow.kept (row := none) h ⟨hb.os, hb.tape, hb.output, hb.size, fun j hj _ => hb.block j hj⟩ (by
    by_cases hv : v.ownBlock = none
    · exact .inl hv
    · exact .inr hv)

/-- one int appended -/
theorem wpList_app_n (w : World) {ops : Array Oper} {rest : List Oper} {o : Oper} {a : Act} {Q : Exit → Act → World → Prop} (hgd : o.guard = none) (s x : Operand)
    (ho : o.op = .call { callee := .builtin .append, args := #[s, x], argTypes := #[24, 24] })
    (B : Nat) (v : Value) (ns : List Nat) (hs : a.eval s = v) (hown : Ns B w v ns) (n : Nat) (z : Int) (hzn : z = (n : Int)) (c : Nat)
    (hx : a.eval x = .slice (some ⟨w.heap.size, 0, none⟩) 1 c) (h63 : ns.length ≤ 1000000) (hbase : B ≤ w.heap.size)
    (h : ∀ v' w', Ns B w' v' (ns ++ [n]) → Up w v w' v' → wpList Tryd.prog ops Q rest (a.put o.dst v') w') :
    wpList Tryd.prog ops Q (o :: rest) a (w.alloc (.cells #[.int .i64 z] 3)) := by
  subst hzn
  obtain ⟨i, hi, hz, hi1, hi2⟩ := info_parts infoI
  have hn : ∀ j u, [Value.int .i64 (n : Nat)][j]? = some u → (w.alloc (.cells #[.int .i64 (n : Nat)] 3)).cell? ((⟨w.heap.size, 0, none⟩ : Addr).add j) = some u := by
    intro j u hj
    match j, hj with
    | 0, hj => simp at hj; subst hj; simp [Addr.add]
  refine wpList_plain hgd fun K hK => ?_
  obtain ⟨v', w', hr, ho', hu⟩ := run_app (P := Tryd.prog) (w.alloc (.cells #[.int .i64 (n : Nat)] 3)) B 24 o.type 3 i (.int .i64 0) 1 8 Tryd.underlying24 hi hz hi1 hi2 rfl (by decide) v ns.length (ns.map fun n => Value.int .i64 (n : Nat)) (hown.alloc _)
    ⟨w.heap.size, 0, none⟩ 1 c [.int .i64 (n : Nat)] rfl hn (by intro u hu; simp at hu; subst hu; rfl) (by unfold maxLen; omega) (by omega) (by simp; omega)
  unfold Oper.wp execOp
  simp only [ho, resolve, invoke, builtin, Sem.run_bind, Sem.run_pure, Result.andThen_ok, List.map_toArray, List.map_cons, List.map_nil, hs, hx, hr]
  refine hK _ _ (h v' w' ?_ hu.alloc)
  unfold Ns
  rw [List.map_append, List.length_append]
  exact ho'

theorem Ns.up {B : Nat} {w w' : World} {v v' : Value} {l : List Nat} (h : Up w v w' v') (hown : Ns B w v l) (hB : B ≤ w.heap.size) : Below B w w' :=
  (Below.refl B w).grown h.1 hB fun k hk => (World.ownsRow.lt hown k hk).1

/-- where frames end -/
def endsOf : List ByteArray → List Nat
  | ps => (List.range (ps.length + 1)).map fun k => (flat (ps.take k)).length

theorem Ns.form {B : Nat} {w : World} {v : Value} {ns : List Nat} (h : Ns B w v ns) (hne : ns ≠ []) : ∃ g c, v = .slice (some ⟨g, 0, none⟩) ns.length c ∧ B ≤ g ∧ g < w.heap.size ∧ ∀ i (hi : i < ns.length), w.cell? ⟨g, i, none⟩ = some (.int .i64 (ns[i] : Nat)) := by
  rcases h.2 with ⟨hv, h0⟩ | ⟨g, cap, cur, hv, hB, hg, hle, hm, hcs, htk⟩
  · exact absurd (List.eq_nil_of_length_eq_zero h0) hne
  · have hcells := World.ownsRow.cells h (g := g) (by rw [hv]; rfl)
    have hlt := (World.ownsRow.lt h g (by rw [hv]; rfl)).2
    refine ⟨g, cap, hv, hB, hlt, fun i hi => ?_⟩
    have h1 := hcells i (.int .i64 (ns[i] : Nat)) (by simp [hi])
    have e : (⟨g, 0, none⟩ : Addr).add i = ⟨g, i, none⟩ := by unfold Addr.add; by_cases h2 : i = 0 <;> simp [h2]
    rw [e] at h1
    exact h1

theorem flat_take_le (ps : List ByteArray) (k : Nat) : (flat (ps.take k)).length ≤ (flat ps).length := by
  have e := flat_append (ps.take k) (ps.drop k)
  rw [List.take_append_drop] at e
  rw [e, List.length_append]; omega

/-- how many frames are whole, of bytes cut off -/
theorem cut_at : ∀ (ps : List ByteArray) (j : Nat), j ≤ (flat ps).length → small ps → ∃ m, m ≤ ps.length ∧ (flat (ps.take m)).length ≤ j ∧ (∀ i, m < i → i ≤ ps.length → j < (flat (ps.take i)).length) ∧ ∃ r, (flat ps).take j = flat (ps.take m) ++ r ∧ ∀ t, ¬ Opens r t
  | [], j, hj, _ => ⟨0, Nat.le_refl _, Nat.zero_le _, fun i h1 h2 => by simp at h2; omega, [], by simp [flat], no_none⟩
  | p :: ps, j, hj, hs => by
    have hp : p.data.toList.length ≤ 262144 := by rw [bytes_len]; exact hs p (by simp)
    have hfl := frm_length p.data.toList
    rw [flat, List.length_append] at hj
    by_cases h : j < (frm p.data.toList).length
    · refine ⟨0, Nat.zero_le _, Nat.zero_le _, fun i h1 h2 => ?_, (frm p.data.toList).take j, ?_, no_part _ _ (by omega) hp⟩
      · obtain ⟨i, rfl⟩ : ∃ i', i = i' + 1 := ⟨i - 1, by omega⟩
        rw [List.take_succ_cons, flat, List.length_append]; omega
      · rw [flat, List.take_append_of_le_length (by omega)]; rfl
    · obtain ⟨m, h1, h2, h3, r, h4, h5⟩ := cut_at ps (j - (frm p.data.toList).length) (by omega) (fun x hx => hs x (by simp [hx]))
      refine ⟨m + 1, by simp; omega, ?_, fun i hi1 hi2 => ?_, r, ?_, h5⟩
      · rw [List.take_succ_cons, flat, List.length_append]; omega
      · obtain ⟨i, rfl⟩ : ∃ i', i = i' + 1 := ⟨i - 1, by omega⟩
        have := h3 i (by omega) (by simp at hi2; omega)
        rw [List.take_succ_cons, flat, List.length_append]; omega
      · rw [List.take_succ_cons, flat, flat, List.take_append, List.take_of_length_le (by omega), h4, List.append_assoc]

theorem flat_mono (ps : List ByteArray) {i m : Nat} (h : i ≤ m) : (flat (ps.take i)).length ≤ (flat (ps.take m)).length := by
  have := flat_take_le (ps.take m) i
  rwa [List.take_take, Nat.min_eq_left h] at this

theorem walk_out (a : Option Addr) (len cap : Nat) (cut : Int) (more : ByteArray) (w : World) (hT : Tab w) (h : 12 < len ∨ 100 < more.size) :
    Calls Tryd.prog 3 #[.slice a len cap, .int .i64 cut, .string more] w fun e w' => e = .returned (.bool true) ∧ Below w.heap.size w w' := by
  by_cases h1 : 12 < len
  · have h1' : (12 : Int) < (len : Int) := by omega
    go_enter Tryd.func3, Tryd.ntmps3
    go_wp2_with fail
    refine (head_any _ hT).mono ?_
    rintro e w1 ⟨rfl, hb1⟩
    go_wp2
    go_ret
    exact ⟨rfl, hb1⟩
  · have h1' : ¬ (12 : Int) < (len : Int) := by omega
    have h2' : (100 : Int) < (more.size : Int) := by omega
    go_enter Tryd.func3, Tryd.ntmps3
    go_wp2_with fail
    refine (head_any _ hT).mono ?_
    rintro e w1 ⟨rfl, hb1⟩
    go_wp2
    go_ret
    exact ⟨rfl, hb1⟩

theorem endsOf_length (ps : List ByteArray) : (endsOf ps).length = ps.length + 1 := by simp [endsOf]
theorem endsOf_nil : endsOf [] = [0] := rfl
theorem endsOf_get (ps : List ByteArray) (j : Nat) (h : j < (endsOf ps).length) : (endsOf ps)[j] = (flat (ps.take j)).length := by simp [endsOf]
theorem endsOf_snoc (ps : List ByteArray) (t : ByteArray) : endsOf (ps ++ [t]) = endsOf ps ++ [(flat (ps ++ [t])).length] := by
  apply List.ext_getElem
  · simp [endsOf]
  · intro j h1 h2
    rw [endsOf_get]
    by_cases hj : j < (endsOf ps).length
    · rw [List.getElem_append_left hj, endsOf_get]
      rw [endsOf_length] at hj
      rw [List.take_append_of_le_length (by omega)]
    · rw [List.getElem_append_right (by omega)]
      simp only [endsOf_length, List.length_append, List.length_singleton] at h1 hj
      rw [List.take_of_length_le (by simp; omega)]
      simp

theorem take_snocS (ps : List ByteArray) (k : Nat) (h : k < ps.length) : ps.take (k + 1) = ps.take k ++ [ps[k]] := List.take_succ_eq_append_getElem h

def fine (ps : List ByteArray) : Prop := ∀ t ∈ ps, t.size ≤ 300

theorem fine.small {ps : List ByteArray} (h : fine ps) : small ps := fun t ht => Nat.le_trans (h t ht) (by omega)

theorem flat_size : ∀ (ps : List ByteArray), fine ps → (flat ps).length ≤ 312 * ps.length
  | [], _ => Nat.le_refl _
  | t :: ps, h => by
    have h1 := flat_size ps (fun x hx => h x (by simp [hx]))
    have h2 := h t (by simp)
    have h3 := bytes_len t
    rw [flat, List.length_append, frm_length, List.length_cons]
    omega

set_option maxHeartbeats 4000000 in
theorem walk_in (a : Option Addr) (cap : Nat) (ps : List ByteArray) (cut : Int) (more : ByteArray) (w : World) (hT : Tab w) (hrow : SRow w a ps) (hlen : ps.length ≤ 12) (hmore : more.size ≤ 100) :
    Calls Tryd.prog 3 #[.slice a ps.length cap, .int .i64 cut, .string more] w fun e w' => e = .returned (.bool true) ∧ Below w.heap.size w w' := by
  have h1' : ¬ (12 : Int) < (ps.length : Int) := by omega
  have h2' : ¬ (100 : Int) < (more.size : Int) := by omega
  have h0 := hT.lt
  have HTB : Hid (∀ w', Below w.heap.size w w' → Tab w') := Lib.hid (fun w' h => hT.below h h0)
  have HROW : Hid (∀ w', Below w.heap.size w w' → SRow w' a ps) := Lib.hid (fun w' h => hrow.below h)
  go_enter Tryd.func3, Tryd.ntmps3
  go_wp2_with fail
  refine (head_any _ hT).mono ?_
  rintro e w1 ⟨rfl, hb1⟩
  clear hrow
  have hn1 := ns_new w1 w.heap.size 0 hb1.size
  have hb1a := hb1.alloc hb1.size (.cells #[.int .i64 (0 : Nat)] 3)
  go_wp2
  go_loopw [7, 8, 34] (fun all v c wr => ∃ k : Nat, k ≤ ps.length ∧ c = .int .i64 k ∧ all = .string ⟨(flat (ps.take k)).toArray⟩ ∧ Ns w.heap.size wr v (endsOf (ps.take k)) ∧ fine (ps.take k) ∧ Below w.heap.size w wr) (fun _ _ c _ => ps.length - (intOf c).toNat)
  case atStart => exact ⟨0, Nat.zero_le _, rfl, rfl, hn1, (fun _ h => by cases h), hb1a⟩
  case round =>
    obtain ⟨k, hk, rfl, rfl, hown, hfine, hb⟩ := hrel
    have hz := hb.size
    by_cases hlt : k < ps.length
    · rcases HROW.out wr hb with h | ⟨bb, off, rfl, _, hc⟩
      · rw [h] at hlt; cases hlt
      have hck := hc k hlt
      have hTr := HTB.out wr hb
      obtain ⟨t, ht⟩ : ∃ t, t = ps[k] := ⟨_, rfl⟩
      have htk := take_snocS ps k hlt
      rw [← ht] at hck htk
      have HC := Lib.hid hc
      clear hc ht
      by_cases hbig : 300 < t.size
      · have hbig' : (300 : Int) < (t.size : Int) := by omega
        clear hown
        go_wp2
        go_ret
        exact ⟨rfl, hb⟩
      · have hbig' : ¬ (300 : Int) < (t.size : Int) := by omega
        have hput := put_ok t (by omega) wr hTr
        have hone := fun w' (h : Below w.heap.size w w') => one_any t (by omega) w' (HTB.out w' h)
        have hF2 : (⟨(flat (ps.take k)).toArray⟩ : ByteArray) ++ ⟨(frm t.data.toList).toArray⟩ = ⟨(flat (ps.take (k + 1))).toArray⟩ := by
          rw [htk, flat_snoc]
          apply ByteArray.ext
          simp [ByteArray.data_append]
        have hfine2 : fine (ps.take (k + 1)) := by
          rw [htk]
          intro x hx
          rcases List.mem_append.1 hx with h | h
          · exact hfine x h
          · simp at h; subst h; omega
        have hsz := flat_size _ hfine
        have hl2 : (ps.take k).length = k := by rw [List.length_take]; omega
        rw [hl2] at hsz
        have hX : (⟨(flat (ps.take k)).toArray⟩ : ByteArray).size ≤ 10000 := by rw [size_arr]; omega
        have hFs : (⟨(frm t.data.toList).toArray⟩ : ByteArray).size ≤ 1000 := by rw [size_arr, frm_length, bytes_len]; omega
        have hsum : (⟨(flat (ps.take k)).toArray⟩ : ByteArray).size + (⟨(frm t.data.toList).toArray⟩ : ByteArray).size = (flat (ps.take k ++ [t])).length := by
          rw [size_arr, size_arr, flat_snoc, List.length_append]
        have hends := endsOf_snoc (ps.take k) t
        have helen : (endsOf (ps.take k)).length ≤ 1000 := by rw [endsOf_length, hl2]; omega
        rw [← htk] at hsum hends
        generalize (⟨(flat (ps.take k)).toArray⟩ : ByteArray) = X at hF2 hX hsum
        generalize (⟨(frm t.data.toList).toArray⟩ : ByteArray) = F at hF2 hFs hput hone hsum
        have HF2 := Lib.hid hF2
        have HTK := Lib.hid htk
        have HFN := Lib.hid hfine2
        have HE := Lib.hid hends
        have HS := Lib.hid hsum
        have HONE := Lib.hid hone
        clear hF2 htk hfine2 hsz hl2 hends hsum hone hfine
        go_wp2_with fail
        refine hput.mono ?_
        rintro e w2 ⟨rfl, hb2'⟩
        have hb2 := hb.trans (hb2'.mono hz)
        have hown2 := hown.below hb2'
        clear hown hb2' hput
        go_wp2_with fail
        refine (HONE.out _ hb2).mono ?_
        rintro e w3 ⟨rfl, hb3'⟩
        have hb3 := hb2.trans (hb3'.mono hb2.size)
        have hown3 := hown2.below hb3'
        have hz3 := hb3.size
        clear hown2 hb3' hb2 hTr
        go_wp2_with (at_builtin; refine wpList_app_n _ rfl (.tmp 57) (.tmp 60) rfl w.heap.size _ _ rfl hown3 (flat (ps.take (k + 1))).length _ (by rw [← HS.out]; omega) _ rfl (by omega) hz3 ?_; intro v4 w4 hown4 hup4)
        have hb4 := hb3.trans (Ns.up hup4 hown3 hz3)
        go_roundw
        case rel => exact ⟨k + 1, by omega, by go_num, by rw [HF2.out], by rw [HE.out]; exact hown4, HFN.out, hb4⟩
        case measure => simp [intOf]; omega
    · have ek : k = ps.length := by omega
      subst ek
      rw [List.take_of_length_le (Nat.le_refl _)] at hown hfine ⊢
      have hsz := flat_size ps hfine
      have hne : endsOf ps ≠ [] := by intro e; have := endsOf_length ps; rw [e] at this; cases this
      obtain ⟨g, cg, rfl, hg1, hg2, hcg⟩ := hown.form hne
      have hel := endsOf_length ps
      have hAl : (⟨(flat ps).toArray⟩ : ByteArray).size = (flat ps).length := size_arr _
      have hAd : (⟨(flat ps).toArray⟩ : ByteArray).data.toList = flat ps := rfl
      have hall := all_any ⟨(flat ps).toArray⟩ (by rw [hAl]; omega) wr (HTB.out wr hb)
      rw [hAd] at hall
      rw [hel] at *
      obtain ⟨A, hA⟩ : ∃ A : ByteArray, A = ⟨(flat ps).toArray⟩ := ⟨_, rfl⟩
      rw [← hA] at hall hAl hAd ⊢
      have HAL := Lib.hid hAl
      have HAD := Lib.hid hAd
      have hA4 : A.size ≤ 4000 := by omega
      have HCG := Lib.hid hcg
      clear hown hcg hA hAl hAd hsz hk hlt hne
      go_wp2_with fail
      refine hall.mono ?_
      rintro e w2 ⟨hb2', ts, a2, c2, hfr, rfl, hss⟩
      have hts : ts = ps := hfr.of hfine.small no_none (by simp)
      subst hts
      rw [← HAL.out]
      obtain ⟨_, hgot⟩ := hss.srow
      have hb2 := hb.trans (hb2'.mono hz)
      have HGOT := Lib.hid (fun w' (h : Below w2.heap.size w2 w') => hgot.below h)
      have HBW := Lib.hid (fun w' (h : Below w2.heap.size w2 w') => hb2.trans (h.mono hb2.size))
      have HCG2 := Lib.hid (fun w' (h : Below w2.heap.size w2 w') i hi => (h.cell (p := ⟨g, i, none⟩) (Nat.lt_of_lt_of_le hg2 hb2'.size)).trans ((hb2'.cell (p := ⟨g, i, none⟩) hg2).trans (HCG.out i hi)))
      have hsame : ((A.size : Int) != (A.size : Int)) = false := by simp
      have hsame2 : ((ts.length : Int) != (ts.length : Int)) = false := by simp
      have hg2' : g < w2.heap.size := Nat.lt_of_lt_of_le hg2 hb2'.size
      clear hall hfr hss hgot hb2' HCG
      go_wp2
      go_loopw [81] (fun c wr => ∃ k : Nat, k ≤ ts.length ∧ c = .int .i64 k ∧ Below w2.heap.size w2 wr) (fun c _ => ts.length - (intOf c).toNat)
      case atStart => exact ⟨0, Nat.zero_le _, rfl, Below.refl _ _⟩
      case round =>
        obtain ⟨k, hk, rfl, hbk⟩ := hrel
        have hbw := HBW.out _ hbk
        by_cases hlt : k < ts.length
        · rcases HROW.out _ hbw with h | ⟨bb, off, rfl, _, hc⟩
          · rw [h] at hlt; cases hlt
          rcases HGOT.out _ hbk with h | ⟨bb2, off2, rfl, _, hc2⟩
          · rw [h] at hlt; cases hlt
          have hck := hc k hlt
          have hck2 := hc2 k hlt
          clear hc hc2
          obtain ⟨t, ht⟩ : ∃ t, t = ts[k] := ⟨_, rfl⟩
          rw [← ht] at hck hck2
          clear ht
          have hbw' := Lib.hid hbw
          have hbkd := hbk.drew
          clear hbw
          go_wp2
          go_region
          go_wp2
          go_roundw
          case rel => exact ⟨k + 1, by omega, by go_num, hbkd⟩
          case measure => simp [intOf]; omega
        · have hbw := HBW.out _ hbk
          have hmask := and_mask16 cut
          obtain ⟨q, hq⟩ : ∃ q : Nat, cut % 65536 = (q : Int) := ⟨(cut % 65536).toNat, by omega⟩
          rw [hq] at hmask
          obtain ⟨j, hj⟩ : ∃ j : Nat, j = q % (A.size + 1) := ⟨_, rfl⟩
          have hj1 : (q : Int) % ((A.size : Int) + 1) = (j : Int) := by rw [hj]; simp
          have hj2 : (j : Int) ≤ (A.size : Int) := by have := Nat.mod_lt q (show 0 < A.size + 1 by omega); omega
          have hjn : j ≤ A.size := by omega
          obtain ⟨X, hX⟩ : ∃ X, A.extract 0 j = X := ⟨_, rfl⟩
          have hXd : X.data.toList = (flat ts).take j := by rw [← hX, Lib.extract_data, HAD.out]; simp
          have hXs : X.size ≤ 100000 := by rw [← hX, ByteArray.size_extract]; omega
          obtain ⟨m, hm1, hm2, hm3, r, hm4, hm5⟩ := cut_at ts j (by rw [← HAL.out]; exact hjn) hfine.small
          have hall := all_any X hXs wr (HTB.out _ hbw)
          have HFM : Hid (small (ts.take m)) := Lib.hid (fun x hx => hfine.small x (List.mem_of_mem_take hx))
          rw [hXd, hm4] at hall
          have HJN := Lib.hid hjn
          have HM1 := Lib.hid hm1
          have HM2 := Lib.hid hm2
          have HM3 := Lib.hid hm3
          have HX := Lib.hid hX
          have HM5 := Lib.hid hm5
          have hA5 : (A.size : Int) ≤ 4000 := by omega
          have HA4 := Lib.hid hA4
          clear hb hb2 hb1 hb1a hn1 hq hk hA4 h0 hj hX hXd hXs hm1 hm2 hm3 hm4 hm5 hjn
          go_wp2_with fail
          rw [HX.out]
          refine hall.mono ?_
          rintro e w3 ⟨hb3', us, a3, c3, hfr, rfl, hss⟩
          have hus : us = ts.take m := hfr.of HFM.out HM5.out rfl
          have hul : us.length = m := by rw [hus, List.length_take]; exact Nat.min_eq_left HM1.out
          rw [hul, hus]
          have hb3 := hbw.trans (hb3'.mono hbw.size)
          have hcells := fun w' (h : Below w3.heap.size w3 w') i hi => (h.cell (p := ⟨g, i, none⟩) (Nat.lt_of_lt_of_le (Nat.lt_of_lt_of_le hg2' hbk.size) hb3'.size)).trans ((hb3'.cell (p := ⟨g, i, none⟩) (Nat.lt_of_lt_of_le hg2' hbk.size)).trans (HCG2.out _ hbk i hi))
          clear hall hfr hss hbw hb3' hus hul
          have HCE : Hid (∀ w', Below w3.heap.size w3 w' → ∀ i, i ≤ ts.length → w'.cell? ⟨g, i, none⟩ = some (.int .i64 ((flat (ts.take i)).length : Nat))) := Lib.hid (fun w' h i hi => by
            have h1 := hcells w' h i (by rw [endsOf_length]; omega)
            rw [endsOf_get] at h1
            exact h1)
          have HB3 := Lib.hid hb3
          clear hcells hb3
          go_wp2
          go_loopw [18] (fun c wx => ∃ k : Nat, k ≤ m ∧ c = .int .i64 k ∧ Below w3.heap.size w3 wx) (fun c _ => m - (intOf c).toNat)
          case atStart => exact ⟨0, Nat.zero_le _, rfl, Below.refl _ _⟩
          case round =>
            obtain ⟨i, hi, rfl, hbi⟩ := hrel
            by_cases him : i < m
            · have hc := HCE.out _ hbi (i + 1) (by have := HM1.out; omega)
              have hle := Nat.le_trans (flat_mono ts (show i + 1 ≤ m by omega)) HM2.out
              generalize (flat (ts.take (i + 1))).length = z at hc hle
              have hle' : (z : Int) ≤ (j : Int) := by omega
              have hil : (i : Int) < (ts.length : Int) := by have := HM1.out; omega
              have hiw : (i : Int) ≤ 100000 := by omega
              clear hle
              go_wp2
              go_roundw
              case rel => exact ⟨i + 1, by omega, by go_num, hbi⟩
              case measure => simp [intOf]; omega
            · have eim : i = m := by omega
              subst eim
              have hbw5 := HB3.out.trans (hbi.mono HB3.out.size)
              have hABd : (A ++ more).data.toList = flat ts ++ more.data.toList := by rw [ByteArray.data_append, Array.toList_append, HAD.out]
              have hABs : (A ++ more).size ≤ 100000 := by rw [ByteArray.size_append]; have := HA4.out; omega
              have hall := all_any (A ++ more) hABs wr (HTB.out _ hbw5)
              rw [hABd] at hall
              have HFS : Hid (small ts) := Lib.hid hfine.small
              have hcm := HCE.out _ hbi i HM1.out
              generalize (flat (ts.take i)).length = y at hcm ⊢
              have hmx : (A.size : Int) + (more.size : Int) ≤ 100000 := by omega
              clear hABd hABs him hi
              by_cases hil0 : i < ts.length
              · have hcm0 := HM3.out (i + 1) (by omega) (by omega)
                have hc := HCE.out _ hbi (i + 1) (by omega)
                generalize (flat (ts.take (i + 1))).length = z at hc hcm0
                have hle' : ¬ (z : Int) ≤ (j : Int) := by omega
                have hil : (i : Int) < (ts.length : Int) := by omega
                have hiw : (i : Int) ≤ 100000 := by omega
                clear hil0
                clear hcm0
                go_wp2_with fail
                refine hall.mono ?_
                rintro e w5 ⟨hb5', us, a5, c5, hfr, rfl, hss⟩
                have hb5 := hbw5.trans (hb5'.mono hbw5.size)
                obtain ⟨vs, hvs⟩ := hfr.more HFS.out rfl
                have hge1 : (ts.length : Int) ≤ (us.length : Int) := by rw [hvs, List.length_append]; omega
                have hge2 : (A.size : Int) ≤ ((flat us).length : Int) := by rw [hvs, flat_append, List.length_append, HAL.out]; omega
                generalize (flat us).length = y2 at hge2
                generalize us.length = y3 at hge1 hss
                clear hfr hss hvs hall hb5' hbw5
                go_wp2
                go_ret
                exact ⟨rfl, hb5⟩
              · have hil : ¬ (i : Int) < (ts.length : Int) := by omega
                have hcm0 := hil0
                have hib : (i : Int) < (ts.length : Int) + 1 := by have := HM1.out; omega
                clear hil0
                clear hcm0
                go_wp2_with fail
                refine hall.mono ?_
                rintro e w5 ⟨hb5', us, a5, c5, hfr, rfl, hss⟩
                have hb5 := hbw5.trans (hb5'.mono hbw5.size)
                obtain ⟨vs, hvs⟩ := hfr.more HFS.out rfl
                have hge1 : (ts.length : Int) ≤ (us.length : Int) := by rw [hvs, List.length_append]; omega
                have hge2 : (A.size : Int) ≤ ((flat us).length : Int) := by rw [hvs, flat_append, List.length_append, HAL.out]; omega
                generalize (flat us).length = y2 at hge2
                generalize us.length = y3 at hge1 hss
                clear hfr hss hvs hall hb5' hbw5
                go_wp2
                go_ret
                exact ⟨rfl, hb5⟩

theorem walk {w : World} (a : Option Addr) (len cap : Nat) (hr : ∃ ps, Came w a len cap ps) (cut : Int) (_w1 : (Lit.int .i64 cut).wf = true) (more : ByteArray) (_w2 : more.size ≤ maxLen) (hT : Tab w) :
    Calls Tryd.prog 3 #[.slice a len cap, .int .i64 cut, .string more] w fun e w' => e = .returned (.bool true) ∧ Below w.heap.size w w' := by
  obtain ⟨ps, hrow, hl, _⟩ := hr
  subst hl
  by_cases h1 : 12 < ps.length
  · exact walk_out a ps.length cap cut more w hT (.inl h1)
  · by_cases h2 : 100 < more.size
    · exact walk_out a ps.length cap cut more w hT (.inr h2)
    · exact walk_in a cap ps cut more w hT hrow (by omega) (by omega)

end Go.Proofs.YtdakodljpgnkdaaDoor.frameAlls
