/-
  val's OfMap of no field.
-/
import Derived.Test.YtmodegncifopaaaVOfMap2
import Derived.Outline
namespace Go.Proofs.Ytmodegncifopaaa
open Go.RowKit Go.Sort

theorem kept_none : keptF #[] = [] := rfl

set_option maxHeartbeats 1000000 in
theorem stable_none (a : Option Addr) (cap : Nat) (w : World) :
    Calls Try.prog 52 #[.slice a 0 cap, .func (.func 53) #[] #[]] w fun e w' => e = .returned (.tuple #[]) ∧ w = w' := by
  have hins : ∀ w, Calls Try.prog 90 #[.slice a 0 cap, .int .i64 0, .int .i64 0, .func (.func 53) #[] #[]] w fun e w' => e = .returned (.tuple #[]) ∧ w = w' := fun w => by
    go_enter Try.func90, Try.ntmps90
    go_wp2_with fail
    refine wp_loop_rounds 1 ?_
    rw [rounds_succ]
    go_wp2
    go_end0
    exact ⟨rfl, rfl⟩
  have hst : ∀ w, Calls Try.prog 81 #[.slice a 0 cap, .int .i64 0, .func (.func 53) #[] #[]] w fun e w' => e = .returned (.tuple #[]) ∧ w = w' := fun w => by
    go_enter Try.func81, Try.ntmps81
    go_wp2_with fail
    refine wp_loop_rounds 1 ?_
    rw [rounds_succ]
    go_wp2_with fail
    refine (hins _).mono ?_
    rintro e w1 ⟨rfl, rfl⟩
    go_wp2_with fail
    refine wp_loop_rounds 1 ?_
    rw [rounds_succ]
    go_wp2
    go_end0
    exact ⟨rfl, rfl⟩
  go_enter Try.func52, Try.ntmps52
  go_wp2_with fail
  refine (hst _).mono ?_
  rintro e w1 ⟨rfl, rfl⟩
  go_wp2
  go_end0
  exact ⟨rfl, rfl⟩

theorem wpList_app_zero {ops : Array Oper} {rest : List Oper} {o : Oper} {a : Act} {w : World} {Q : Exit → Act → World → Prop} (hgd : o.guard = none) (s x : Operand)
    (ho : o.op = .call { callee := .builtin .append, args := #[s, x], argTypes := #[24, 24] })
    (g off cap : Nat) (hs : a.eval s = .slice (some ⟨g, off, none⟩) 0 cap) (ad : Addr) (c : Nat) (hx : a.eval x = .slice (some ad) 0 c)
    (h : wpList Try.prog ops Q rest (a.put o.dst (.slice (some ⟨g, off, none⟩) 0 cap)) w) : wpList Try.prog ops Q (o :: rest) a w := by
  obtain ⟨i, hi, _, hi1, _⟩ := info_parts infoF
  refine wpList_plain hgd fun K hK => ?_
  have hr := run_append_room_cells (P := Try.prog) w 24 o.type 43 i Try.underlying24 hi g off 0 cap ad 0 c [] (by simp) (fun j u hj => by simp at hj) (fun u hu => by cases hu) (by omega) (fun j hj => by simp at hj) (fun j hj => by simp at hj)
  rw [setCells_sets] at hr
  unfold Oper.wp execOp
  simp only [ho, resolve, invoke, builtin, Sem.run_bind, Sem.run_pure, Result.andThen_ok, List.map_toArray, List.map_cons, List.map_nil, hs, hx, hr]
  exact hK _ _ h

set_option maxHeartbeats 1000000 in
set_option maxRecDepth 100000 in
theorem fclone_none (a : Option Addr) (c : Nat) (w : World) :
    Calls Try.prog 51 #[.slice a 0 c] w fun e w' => (∃ a', e = .returned (.slice a' 0 0)) ∧ RowKit.Below w.heap.size w w' := by
  have heq := fun w' => Lib.run_eql_slice_nil (P := Try.prog) w' 24 43 a 0 c 0 0 Try.underlying24
  cases a with
  | none =>
    go_enter Try.func51, Try.ntmps51
    go_wp2
    go_ret
    exact ⟨⟨none, rfl⟩, RowKit.Below.refl _ _⟩
  | some ad =>
    go_enter Try.func51, Try.ntmps51
    go_wp2_with (at_builtin; refine Mark.out ?_)
    refine Mark.mk ?_
    refine wpList_app_zero rfl (.tmp 5) (.tmp 6) rfl w.heap.size 0 0 rfl ad c rfl ?_
    go_wp2
    go_ret
    exact ⟨⟨_, rfl⟩, (RowKit.Below.refl _ w).alloc (Nat.le_refl _) _⟩

set_option maxHeartbeats 2000000 in
set_option maxRecDepth 100000 in
theorem ofMap_none (a : Option Addr) (c : Nat) (w : World) : Calls Try.prog 24 #[.slice a 0 c] w (OfMapP [] w) := by
  have hb0 : RowKit.Below w.heap.size w (w.alloc (.cells #[.int .i64 0, .bool false, .int .i64 0, .string ⟨#[]⟩, .slice none 0 0, .slice none 0 0] 26)) := (RowKit.Below.refl _ w).alloc (Nat.le_refl _) _
  have hZ : Box (w.alloc (.cells #[.int .i64 0, .bool false, .int .i64 0, .string ⟨#[]⟩, .slice none 0 0, .slice none 0 0] 26)) w.heap.size 26 #[.int .i64 0, .bool false, .int .i64 0, .string ⟨#[]⟩, .slice none 0 0, .slice none 0 0] := Box.new w _ _
  have HB := Lib.hid (And.intro hb0 hZ)
  clear hb0 hZ
  go_enter Try.func24, Try.ntmps24
  go_wp2_with fail
  refine (fclone_none a c _).mono ?_
  rintro e w1 ⟨⟨a', rfl⟩, hb1⟩
  have hb1w := HB.out.1.trans (hb1.mono (by simp))
  have hZ1 : Box w1 w.heap.size 26 #[.int .i64 0, .bool false, .int .i64 0, .string ⟨#[]⟩, .slice none 0 0, .slice none 0 0] := (hb1.block _ (by simp)).trans HB.out.2
  have HX := Lib.hid (And.intro hb1w hZ1)
  have hcl := cloneFields_any (depF []) (clone_all _) [] (fun x hx => by cases hx) (fun x hx => by cases hx) (by simp) (.slice a' 0 0) w1 ⟨a', 0, rfl, Nat.le_refl _, by unfold maxLen; omega, .inl rfl⟩
  clear hb1 hb1w hZ1
  go_wp2_with fail
  refine (stable_none a' 0 w1).mono ?_
  rintro e w2 ⟨rfl, rfl⟩
  go_wp2_with fail
  refine wp_loop_rounds 1 ?_
  rw [rounds_succ]
  go_wp2_with fail
  refine hcl.mono ?_
  rintro e w5 ⟨lv', rfl, hF5, hb5⟩
  obtain ⟨qx, qc, rfl, _, _, _⟩ := id hF5
  have hz1 := HX.out.2.lt
  have hZ5 : Box w5 w.heap.size 26 #[.int .i64 0, .bool false, .int .i64 0, .string ⟨#[]⟩, .slice none 0 0, .slice none 0 0] := (hb5.block _ hz1).trans HX.out.2
  have hb5w := HX.out.1.trans (hb5.mono (by omega))
  have hF6 := Box.sets [.int .i64 5, .bool false, .int .i64 0, .string ⟨#[]⟩, .slice none 0 0, .slice qx 0 qc] 0 hZ5
  obtain ⟨⟨k0, k1, k2, k3, k4, k5⟩, _⟩ := Box.six (c0 := .int .i64 5) (c1 := .bool false) (c2 := .int .i64 0) (c3 := .string ⟨#[]⟩) (c4 := .slice none 0 0) (c5 := .slice qx 0 qc) hF6
  simp only [sets, Nat.zero_add, Nat.reduceAdd] at k0 k1 k2 k3 k4 k5
  have hb6 := Go.Proofs.Ytmodegncifopaaa.Below.sets [.int .i64 5, .bool false, .int .i64 0, .string ⟨#[]⟩, .slice none 0 0, .slice qx 0 qc] 0 hb5w (g := w.heap.size) (Nat.le_refl _)
  have hat6 : (V.ofMap []).At (sets w5 w.heap.size 0 [.int .i64 5, .bool false, .int .i64 0, .string ⟨#[]⟩, .slice none 0 0, .slice qx 0 qc]) (fun q => w.heap.size ≤ q) (.slice none 0 0) (.slice qx 0 qc) :=
    V.at_iff.2 ⟨⟨none, 0, rfl, Nat.le_refl _, by unfold maxLen; omega, .inl rfl⟩, FAt.move (fun b hb _ => ⟨by omega, sets_far _ _ _ _ (by omega)⟩) (by rw [sets_size]; exact Nat.le_refl _) hF5⟩
  obtain ⟨⟨z0, z1, z2, z3, z4, z5⟩, s0, s1, s2, s3, s4, s5⟩ := hZ5.six
  have HE := Lib.hid (And.intro hb6 hat6)
  clear hF6 hF5 hb5 hZ5 hb5w hb6 hat6 hcl hz1
  go_wp2
  refine bodyPost_ret (v := .agg #[.int .i64 5, .bool false, .int .i64 0, .string ⟨#[]⟩, .slice none 0 0, .slice qx 0 qc]) (by simp [results, Try.results24, go_sem, k0, k1, k2, k3, k4, k5]) rfl ⟨_, rfl, HE.out.2, HE.out.1⟩

/-- OfMap of twenty fields at most, however they lie -/
theorem ofMap_any (fs : List Fd) (fv : Value) (w : World) (h : FAt w All fs fv) (hlen : fs.length ≤ 20) (hsm : ∀ p ∈ fs, p.2.sm) :
    ∃ d : Array FC, fs = (d.map FC.fd).toList ∧ Calls Try.prog 24 #[fv] w (OfMapP ((keptF d).map FC.fd) w) := by
  obtain ⟨a, c, d, rfl, hfs, hrep, hd⟩ := fields_lie h
  have hl : d.size = fs.length := by rw [hfs]; simp
  refine ⟨d, hfs, ?_⟩
  by_cases h0 : d.size = 0
  · obtain rfl : d = #[] := Array.eq_empty_of_size_eq_zero h0
    exact ofMap_none a c w
  · rcases hd with hd | ⟨b, off, rfl, hb, hin⟩
    · exact absurd hd h0
    · exact ofMap_some b off c d (by omega) (by omega) w hb hin hrep (fun x hx => hsm (FC.fd x) (by
        rw [hfs]
        exact Array.mem_toList_iff.2 (Array.mem_map.2 ⟨x, hx, rfl⟩)))

end Go.Proofs.Ytmodegncifopaaa
