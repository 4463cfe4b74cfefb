/-
  The law's order of values, plainly; of what the law's Right makes it is val's.
  mailbaglaw02.order, of any two values.
  mailbaglaw02.order: the lists and the fields.
  The walk of mailbaglaw02.ValOrders.
  The walk of mailbaglaw02.ValOrders: all three values have few parts, or one of them has not.
  The walk of mailbaglaw02.ValOrders: all three values have few parts.
-/
import Derived.Test.YtmodegncifopaaaVCmpLaws
import Derived.Test.YtmodegncifopaaaVRights
import Derived.Test.YtmodegncifopaaaValHead
import Derived.BigQuiet
import Derived.Test.YtmodegncifopaaaRowB
import Derived.Test.YtmodegncifopaaaVFew
import Derived.Deep.DeepCutAuto
section
namespace Go.Proofs.Ytmodegncifopaaa
open Go.RowKit

mutual
/-- the law's order of two values -/
def V.ord : V → V → Int
  | .mk k y n t l f, o => if k ≠ o.kind then cmpI k o.kind else if y ≠ o.yes then cmpYes y o.yes else if n ≠ o.num then cmpI n o.num else if t ≠ o.text then cmpL t.data.toList o.text.data.toList else if ordVs l o.list ≠ 0 then ordVs l o.list else ordFs f o.fields
def ordVs : List V → List V → Int
  | [], [] => 0
  | [], _ :: _ => -1
  | _ :: _, [] => 1
  | a :: xs, b :: ys => if V.ord a b ≠ 0 then V.ord a b else ordVs xs ys
def ordFs : List (ByteArray × V) → List (ByteArray × V) → Int
  | [], [] => 0
  | [], _ :: _ => -1
  | _ :: _, [] => 1
  | a :: xs, b :: ys => if (if a.1 ≠ b.1 then cmpL a.1.data.toList b.1.data.toList else V.ord a.2 b.2) ≠ 0 then (if a.1 ≠ b.1 then cmpL a.1.data.toList b.1.data.toList else V.ord a.2 b.2) else ordFs xs ys
end

def ordFd (a b : Fd) : Int := if a.1 ≠ b.1 then cmpL a.1.data.toList b.1.data.toList else V.ord a.2 b.2

theorem ordVs_lex : ∀ (a b : List V), ordVs a b = lexL V.ord a b
  | [], [] => by rw [ordVs, lexL]
  | [], _ :: _ => by rw [ordVs, lexL]
  | _ :: _, [] => by rw [ordVs, lexL]
  | a :: xs, b :: ys => by rw [ordVs, lexL, ordVs_lex xs ys]
theorem ordFs_lex : ∀ (a b : List Fd), ordFs a b = lexL ordFd a b
  | [], [] => by rw [ordFs, lexL]
  | [], _ :: _ => by rw [ordFs, lexL]
  | _ :: _, [] => by rw [ordFs, lexL]
  | a :: xs, b :: ys => by rw [ordFs, lexL, ordFs_lex xs ys]; rfl

theorem ord_eq (v o : V) : v.ord o = if v.kind ≠ o.kind then cmpI v.kind o.kind else if v.yes ≠ o.yes then cmpYes v.yes o.yes else if v.num ≠ o.num then cmpI v.num o.num else if v.text ≠ o.text then cmpL v.text.data.toList o.text.data.toList else if ordVs v.list o.list ≠ 0 then ordVs v.list o.list else ordFs v.fields o.fields := by
  obtain ⟨k, y, n, t, l, f⟩ := v
  rw [V.ord]; rfl

section
variable {α : Type} {f : α → α → Int}
theorem lexL_at {a b : List α} {j : Nat} (h : j < a.length) (h2 : j < b.length) : lexL f (a.drop j) (b.drop j) = if f a[j] b[j] ≠ 0 then f a[j] b[j] else lexL f (a.drop (j + 1)) (b.drop (j + 1)) := by
  rw [List.drop_eq_getElem_cons h, List.drop_eq_getElem_cons h2, lexL]
theorem lexL_long {a b : List α} {j : Nat} (h : j < a.length) (h2 : b.length ≤ j) : lexL f (a.drop j) (b.drop j) = 1 := by
  rw [List.drop_eq_getElem_cons h, List.drop_of_length_le h2, lexL]
theorem lexL_short {a b : List α} {j : Nat} (h : a.length ≤ j) (h2 : j < b.length) : lexL f (a.drop j) (b.drop j) = -1 := by
  rw [List.drop_of_length_le h, List.drop_eq_getElem_cons h2, lexL]
theorem lexL_done {a b : List α} {j : Nat} (h : a.length ≤ j) (h2 : b.length ≤ j) : lexL f (a.drop j) (b.drop j) = 0 := by
  rw [List.drop_of_length_le h, List.drop_of_length_le h2, lexL]
theorem lexL_congr {g : α → α → Int} : ∀ (l m : List α), (∀ x ∈ l, ∀ y ∈ m, f x y = g x y) → lexL f l m = lexL g l m
  | [], [], _ => by rw [lexL, lexL]
  | [], _ :: _, _ => by rw [lexL, lexL]
  | _ :: _, [], _ => by rw [lexL, lexL]
  | a :: xs, b :: ys, h => by
    rw [lexL, lexL, h a (List.mem_cons_self ..) b (List.mem_cons_self ..), lexL_congr xs ys fun x hx y hy => h x (List.mem_cons_of_mem _ hx) y (List.mem_cons_of_mem _ hy)]
end

/-- a value as the law's Right makes it: what doesn't belong to its kind is nothing -/
inductive V.pl : V → Prop
  | null : V.pl V.null
  | bool (y : Bool) : V.pl (V.ofBool y)
  | int (n : Int) : V.pl (V.ofInt n)
  | text (t : ByteArray) : V.pl (V.ofText t)
  | list (l : List V) (h : ∀ x ∈ l, V.pl x) : V.pl (V.ofList l)
  | map (f : List (ByteArray × V)) (h : ∀ p ∈ f, V.pl p.2) : V.pl (V.ofMap f)

theorem rv_pl : ∀ (N : Nat) (v : V), v.dep ≤ N → v.rv.pl
  | 0, v, hd => by cases v; rw [V.dep] at hd; omega
  | N + 1, v, hd => by
    obtain ⟨k, y, n, t, l, f⟩ := v
    have hdl : ∀ x ∈ l, x.dep ≤ N := fun x hx => by have := dep_list (v := .mk k y n t l f) hx; omega
    have hdf : ∀ p ∈ f, p.2.dep ≤ N := fun p hp => by have := dep_fields (v := .mk k y n t l f) hp; omega
    rw [V.rv, rvL_map, rvF_map]
    unfold rvK
    split
    · exact .bool y
    split
    · exact .int n
    split
    · exact .text t
    split
    · refine .list _ fun x hx => ?_
      obtain ⟨z, hz, rfl⟩ := List.mem_map.1 hx
      exact rv_pl N z (hdl z hz)
    split
    · refine .map _ fun p hp => ?_
      obtain ⟨z, hz, rfl⟩ := List.mem_map.1 (keptL_mem hp)
      exact rv_pl N z.2 (hdf z hz)
    · exact .null

theorem ord_cmp : ∀ (N : Nat) (v o : V), v.dep ≤ N → v.pl → o.pl → v.ord o = v.cmp o
  | 0, v, o, hd, _, _ => by cases v; rw [V.dep] at hd; omega
  | N + 1, v, o, hd, hv, ho => by
    rw [ord_eq]
    by_cases hk : v.kind = o.kind
    · rw [if_neg (fun h => h hk)]
      have hdl : ∀ x ∈ v.list, x.dep ≤ N := fun x hx => by have := dep_list hx; omega
      have hdf : ∀ p ∈ v.fields, p.2.dep ≤ N := fun p hp => by have := dep_fields hp; omega
      cases hv <;> cases ho <;> first
        | (exfalso; simp [V.null, V.ofBool, V.ofInt, V.ofText, V.ofList, V.ofMap, V.kind] at hk; done)
        | skip
      · rw [cmp_other V.null V.null rfl (by simp [V.null, V.kind]) (by simp [V.null, V.kind]) (by simp [V.null, V.kind]) (by simp [V.null, V.kind]) (by simp [V.null, V.kind])]
        simp [V.null, V.yes, V.num, V.text, V.list, V.fields, ordVs, ordFs]
      · rename_i a b
        rw [cmp_bool (V.ofBool a) (V.ofBool b) rfl rfl]
        simp [V.ofBool, V.yes, V.num, V.text, V.list, V.fields, ordVs, ordFs]
        intro h; rw [h]; simp [cmpYes]
      · rename_i a b
        rw [cmp_int (V.ofInt a) (V.ofInt b) rfl rfl]
        simp [V.ofInt, V.yes, V.num, V.text, V.list, V.fields, ordVs, ordFs]
        intro h; rw [h, cmpI_zero.2 rfl]
      · rename_i a b
        rw [cmp_text (V.ofText a) (V.ofText b) rfl rfl]
        simp [V.ofText, V.yes, V.num, V.text, V.list, V.fields, ordVs, ordFs]
        intro h; rw [h, cmpB_zero.2 rfl]
      · rename_i a ha b hb
        rw [cmp_list (V.ofList a) (V.ofList b) rfl rfl]
        have e : ordVs a b = cmpVs a b := by
          rw [ordVs_lex, cmpVs_lex]
          exact lexL_congr a b fun x hx y hy => ord_cmp N x y (hdl x hx) (ha x hx) (hb y hy)
        simp [V.ofList, V.yes, V.num, V.text, V.list, V.fields, ordFs, e]
        intro h; rw [h]
      · rename_i a ha b hb
        rw [cmp_map (V.ofMap a) (V.ofMap b) rfl rfl]
        have e : ordFs a b = cmpFs a b := by
          rw [ordFs_lex, cmpFs_lex]
          refine lexL_congr a b fun x hx y hy => ?_
          unfold ordFd cmpFd
          rw [ord_cmp N x.2 y.2 (hdf x hx) (ha x hx) (hb y hy)]
        simp [V.ofMap, V.yes, V.num, V.text, V.list, V.fields, ordVs, e]
    · rw [if_pos hk, cmp_kinds _ _ hk]

theorem ord_rv (a b : V) : a.rv.ord b.rv = a.rv.cmp b.rv := ord_cmp _ _ _ (Nat.le_refl _) (rv_pl _ a (Nat.le_refl _)) (rv_pl _ b (Nat.le_refl _))

end Go.Proofs.Ytmodegncifopaaa
end

section
namespace Go.Proofs.Ytmodegncifopaaa
open Go.RowKit

attribute [local irreducible] wpStill

theorem cell4 {w w' : World} {b : Nat} {c0 c1 c2 c3 : Value} (hb : Below w.heap.size w w') (hlt : b + 1 < w.heap.size) (h0 : w.cell? ⟨b, 4, none⟩ = some c0) (h1 : w.cell? ⟨b + 1, 4, none⟩ = some c1) (h2 : w.cell? ⟨b, 5, none⟩ = some c2) (h3 : w.cell? ⟨b + 1, 5, none⟩ = some c3) :
    w'.cell? ⟨b, 4, none⟩ = some c0 ∧ w'.cell? ⟨b + 1, 4, none⟩ = some c1 ∧ w'.cell? ⟨b, 5, none⟩ = some c2 ∧ w'.cell? ⟨b + 1, 5, none⟩ = some c3 :=
  ⟨(hb.cell (p := ⟨b, 4, none⟩) (by show b < _; omega)).trans h0, (hb.cell (p := ⟨b + 1, 4, none⟩) hlt).trans h1, (hb.cell (p := ⟨b, 5, none⟩) (by show b < _; omega)).trans h2, (hb.cell (p := ⟨b + 1, 5, none⟩) hlt).trans h3⟩

def lessI (x : Bool) : Int := if x then -1 else 1

theorem less_any (x : Bool) (w : World) : Calls Try.prog 50 #[.bool x] w fun e w' => e = .returned (.int .i64 (lessI x)) ∧ w = w' := by
  cases x
  · go_enter Try.func50, Try.ntmps50
    go_wp2
    go_ret
    exact ⟨rfl, rfl⟩
  · go_enter Try.func50, Try.ntmps50
    go_wp2
    go_ret
    exact ⟨rfl, rfl⟩

theorem less_int {a b : Int} (h : a ≠ b) : lessI (decide (a < b)) = cmpI a b := by
  unfold lessI cmpI
  by_cases h1 : a < b
  · simp [h1]
  · have : b < a := by omega
    simp [h1, this]
theorem less_yes {a b : Bool} (h : a ≠ b) : lessI b = cmpYes a b := by revert h; cases a <;> cases b <;> simp [lessI, cmpYes]
theorem less_text {a b : ByteArray} (h : a ≠ b) : lessI (Op.bytesLess a.toList b.toList) = cmpL a.data.toList b.data.toList := by
  rw [Proofs.bytesLess_eq, Lib.toList_data, Lib.toList_data]
  unfold lessI
  have hne : a.data.toList ≠ b.data.toList := fun e => h (by apply ByteArray.ext; exact Array.toList_inj.1 e)
  rcases lt_tri a.data.toList b.data.toList with h1 | h1 | h1
  · rw [cmpL_neg.2 h1]; simp [h1]
  · exact absurd h1 hne
  · rw [cmpL_pos.2 h1]; simp [lt_asym h1]
theorem less_len {α : Type} (a b : List α) : lessI (decide ((a.length : Int) < (b.length : Int))) = if a.length < b.length then -1 else 1 := by
  unfold lessI
  by_cases h1 : a.length < b.length
  · rw [if_pos h1]; simp [h1]
  · rw [if_neg h1]; simp [h1]

def OrdOK (N : Nat) : Prop := ∀ (v o : V) (lv fv lo fo : Value) (w : World), v.dep ≤ N → v.Is w lv fv → o.Is w lo fo →
  Calls Try.prog 22 #[.agg #[.int .i64 v.kind, .bool v.yes, .int .i64 v.num, .string v.text, lv, fv], .agg #[.int .i64 o.kind, .bool o.yes, .int .i64 o.num, .string o.text, lo, fo]] w fun e w' => e = .returned (.int .i64 (v.ord o)) ∧ Below w.heap.size w w'

set_option maxHeartbeats 4000000 in
set_option maxRecDepth 100000 in
/-- where the two part ahead of their lists -/
theorem ord_head (k : Int) (y : Bool) (n : Int) (t : ByteArray) (k' : Int) (y' : Bool) (n' : Int) (t' : ByteArray) (a : Option Addr) (L c : Nat) (b : Option Addr) (F d : Nat) (a' : Option Addr) (L' c' : Nat) (b' : Option Addr) (F' d' : Nat) (w : World)
    (r : Int) (hr : (k ≠ k' ∧ r = cmpI k k') ∨ (k = k' ∧ y ≠ y' ∧ r = cmpYes y y') ∨ (k = k' ∧ y = y' ∧ n ≠ n' ∧ r = cmpI n n') ∨ (k = k' ∧ y = y' ∧ n = n' ∧ t ≠ t' ∧ r = cmpL t.data.toList t'.data.toList)) :
    Calls Try.prog 22 #[.agg #[.int .i64 k, .bool y, .int .i64 n, .string t, .slice a L c, .slice b F d], .agg #[.int .i64 k', .bool y', .int .i64 n', .string t', .slice a' L' c', .slice b' F' d']] w fun e w' => e = .returned (.int .i64 r) ∧ Below w.heap.size w w' := by
  have hb0 := Lib.hid (two_boxes w #[.int .i64 k, .bool y, .int .i64 n, .string t, .slice a L c, .slice b F d] #[.int .i64 k', .bool y', .int .i64 n', .string t', .slice a' L' c', .slice b' F' d'] 26)
  rcases hr with ⟨h, rfl⟩ | ⟨rfl, h, rfl⟩ | ⟨rfl, rfl, h, rfl⟩ | ⟨rfl, rfl, rfl, h, rfl⟩
  · have hE := Lib.hid (less_int h)
    have g1 : (k == k') = false := by rw [beq_eq_false_iff_ne]; exact h
    have g2 : (k != k') = true := by rw [bne, g1]; rfl
    clear h
    go_enter Try.func22, Try.ntmps22
    go_wp2_with fail
    refine (less_any _ _).mono ?_
    rintro e w1 ⟨rfl, rfl⟩
    go_wp2
    go_ret
    exact ⟨by rw [hE.out]; rfl, hb0.out⟩
  · have hE := Lib.hid (less_yes h)
    have g1 : (y == y') = false := by rw [beq_eq_false_iff_ne]; exact h
    have g2 : (y != y') = true := by rw [bne, g1]; rfl
    clear h
    go_enter Try.func22, Try.ntmps22
    go_wp2_with fail
    refine (less_any _ _).mono ?_
    rintro e w1 ⟨rfl, rfl⟩
    go_wp2
    go_ret
    exact ⟨by rw [hE.out]; rfl, hb0.out⟩
  · have hE := Lib.hid (less_int h)
    have g1 : (n == n') = false := by rw [beq_eq_false_iff_ne]; exact h
    have g2 : (n != n') = true := by rw [bne, g1]; rfl
    clear h
    go_enter Try.func22, Try.ntmps22
    go_wp2_with fail
    refine (less_any _ _).mono ?_
    rintro e w1 ⟨rfl, rfl⟩
    go_wp2
    go_ret
    exact ⟨by rw [hE.out]; rfl, hb0.out⟩
  · have hE := Lib.hid (less_text h)
    have g1 : (t.toList == t'.toList) = false := by
      rw [beq_eq_false_iff_ne, Lib.toList_data, Lib.toList_data]
      exact fun e => h (by apply ByteArray.ext; exact Array.toList_inj.1 e)
    have g2 : (t.toList != t'.toList) = true := by rw [bne, g1]; rfl
    clear h
    go_enter Try.func22, Try.ntmps22
    go_wp2_with fail
    refine (less_any _ _).mono ?_
    rintro e w1 ⟨rfl, rfl⟩
    go_wp2
    go_ret
    exact ⟨by rw [hE.out]; rfl, hb0.out⟩

end Go.Proofs.Ytmodegncifopaaa
end

section
namespace Go.Proofs.Ytmodegncifopaaa
open Go.RowKit

attribute [local irreducible] wpStill

def Cell4 (w : World) (b : Nat) (c0 c1 c2 c3 : Value) : Prop := w.cell? ⟨b, 4, none⟩ = some c0 ∧ w.cell? ⟨b + 1, 4, none⟩ = some c1 ∧ w.cell? ⟨b, 5, none⟩ = some c2 ∧ w.cell? ⟨b + 1, 5, none⟩ = some c3
theorem Cell4.below {w w' : World} {b : Nat} {c0 c1 c2 c3 : Value} (h : Cell4 w b c0 c1 c2 c3) (hb : Below w.heap.size w w') (hlt : b + 1 < w.heap.size) : Cell4 w' b c0 c1 c2 c3 :=
  cell4 hb hlt h.1 h.2.1 h.2.2.1 h.2.2.2

theorem ret_i {a b : Int} (h : a = b) : Ending.returned (.int .i64 a) = .returned (.int .i64 b) := by rw [h]

set_option maxHeartbeats 8000000 in
set_option maxRecDepth 100000 in
theorem ord_rest (N : Nat) (ih : OrdOK N) (k : Int) (y : Bool) (n : Int) (t : ByteArray) (l m : List V) (f f' : List Fd) (hdl : ∀ x ∈ l, x.dep ≤ N) (hdf : ∀ p ∈ f, p.2.dep ≤ N)
    (lv fv lo fo : Value) (w : World) (his : (V.mk k y n t l f).Is w lv fv) (hos : (V.mk k y n t m f').Is w lo fo) :
    Calls Try.prog 22 #[.agg #[.int .i64 k, .bool y, .int .i64 n, .string t, lv, fv], .agg #[.int .i64 k, .bool y, .int .i64 n, .string t, lo, fo]] w fun e w' => e = .returned (.int .i64 (if ordVs l m ≠ 0 then ordVs l m else ordFs f f')) ∧ Below w.heap.size w w' := by
  obtain ⟨⟨a, c, rfl⟩, ⟨a', c', rfl⟩, hLb, hFb⟩ := his.len
  obtain ⟨⟨g, d, rfl⟩, ⟨g', d', rfl⟩, hMb, hGb⟩ := hos.len
  have HDL := Lib.hid hdl
  have HDF := Lib.hid hdf
  clear hdl hdf
  obtain ⟨R, hR⟩ : ∃ R, R = if ordVs l m ≠ 0 then ordVs l m else ordFs f f' := ⟨_, rfl⟩
  rw [← hR]
  rw [ordVs_lex, ordFs_lex] at hR
  have HR := Lib.hid hR
  clear hR
  simp only [V.list, V.fields] at *
  have hb0 := Lib.hid (two_boxes w #[.int .i64 k, .bool y, .int .i64 n, .string t, .slice a l.length c, .slice a' f.length c'] #[.int .i64 k, .bool y, .int .i64 n, .string t, .slice g m.length d, .slice g' f'.length d'] 26)
  go_enter Try.func22, Try.ntmps22
  go_wp2_with fail
  go_loopw [6] (fun i wr => ∃ j : Nat, j ≤ l.length ∧ j ≤ m.length ∧ i = .int .i64 j ∧ Hid (Below w.heap.size w wr) ∧ Hid (Cell4 wr w.heap.size (.slice a l.length c) (.slice g m.length d) (.slice a' f.length c') (.slice g' f'.length d')) ∧ w.heap.size + 1 < wr.heap.size ∧ Hid (lexL V.ord l m = lexL V.ord (l.drop j) (m.drop j))) (fun i _ => l.length - (intOf i).toNat)
  case atStart =>
    refine ⟨0, Nat.zero_le _, Nat.zero_le _, rfl, hb0, Lib.hid ⟨?_, ?_, ?_, ?_⟩, by simp, Lib.hid (by simp)⟩ <;> simp
  case round =>
    obtain ⟨j, hj, hj2, rfl, HBR, HC4, hlt0, HEQ⟩ := hrel
    have hzr := HBR.out.size
    obtain ⟨hc0, hc1, hc2, hc3⟩ := HC4.out
    by_cases hboth : j < l.length ∧ j < m.length
    · obtain ⟨hjl, hjm⟩ := hboth
      have hat := lexL_at (f := V.ord) hjl hjm
      obtain ⟨b, off, cc, lv', fv', e1, hbl, hin, hel⟩ := (his.below HBR.out).elem (i := j) hjl
      obtain ⟨b', off', cc', lw', fw', e2, hbl', hin', hel'⟩ := (hos.below HBR.out).elem (i := j) hjm
      injection e1 with e1 e3 e4
      injection e2 with e2 e5 e6
      clear e3 e5
      subst e1 e2 e4 e6
      have hxd := HDL.out _ (List.getElem_mem hjl)
      obtain ⟨q0, q1, q2, q3, q4, q5⟩ := hin.six
      obtain ⟨p0, p1, p2, p3, p4, p5⟩ := hin'.six
      simp only [V.list] at q0 q1 q2 q3 q4 q5 p0 p1 p2 p3 p4 p5 hel hel'
      generalize l[j] = x at q0 q1 q2 q3 q4 q5 hel hxd hat
      generalize m[j] = z at p0 p1 p2 p3 p4 p5 hel' hat
      obtain ⟨⟨ax, cx, rfl⟩, ⟨ax', cx', rfl⟩, _, _⟩ := hel.len
      obtain ⟨⟨bx, dx, rfl⟩, ⟨bx', dx', rfl⟩, _, _⟩ := hel'.len
      have hjl' : (j : Int) < (l.length : Int) := by omega
      have hjm' : (j : Int) < (m.length : Int) := by omega
      have hj0 : (0 : Int) ≤ (j : Int) := by omega
      have hcall := ih x z _ _ _ _ wr.drew hxd (V.At.drew hel) (V.At.drew hel')
      generalize x.ord z = r at hcall hat
      have HC := Lib.hid hcall
      have HAT := Lib.hid hat
      clear hin hel hin' hel' hcall hat
      go_wp2_with fail
      refine wp_region_still_tail 10 (by kernel_rfl) (by kernel_rfl) ?_
      change wpStill _ _ (World.drew _) (fun a' => wpList _ _ _ _ a' (World.drew _)) _ _
      simp only [List.take_succ_cons, List.take_zero, List.drop_succ_cons, List.drop_zero]
      repeat still_step
      refine wpStill_nil ?_
      have hcall2 := HC.out
      go_wp2_with fail
      refine hcall2.mono ?_
      rintro e w2 ⟨rfl, hb2'⟩
      have hb21 : Below wr.heap.size wr w2 := (Below.refl _ wr).drew.trans hb2'
      have HB2 := Lib.hid (HBR.out.trans (hb21.mono hzr))
      have HC2 := Lib.hid (HC4.out.below hb21 hlt0)
      have hlt2 : w.heap.size + 1 < w2.heap.size := Nat.lt_of_lt_of_le hlt0 hb21.size
      clear hcall2 hb2' hb21 hc0 hc1 hc2 hc3
      by_cases hr : r = 0
      · subst hr
        have HN : Hid (lexL V.ord l m = lexL V.ord (l.drop (j + 1)) (m.drop (j + 1))) := Lib.hid (by rw [HEQ.out, HAT.out, if_neg (by simp)])
        go_wp2
        go_roundw
        case rel => exact ⟨j + 1, by omega, by omega, by go_num, HB2, HC2, hlt2, HN⟩
        case measure => simp [intOf]; omega
      · have HF : Hid (R = r) := Lib.hid (by rw [HR.out, HEQ.out, HAT.out, if_pos hr, if_pos hr])
        have g1 : (r == 0) = false := by rw [beq_eq_false_iff_ne]; exact hr
        have g2 : (r != 0) = true := by rw [bne, g1]; rfl
        clear hr
        go_wp2
        go_ret
        exact ⟨ret_i HF.out.symm, HB2.out⟩
    · by_cases heq : l.length = m.length
      · have e0 : Hid (lexL V.ord l m = 0) := Lib.hid (by rw [HEQ.out, lexL_done (by omega) (by omega)])
        obtain rfl : j = l.length := by omega
        have e1 : ((l.length : Int) == (m.length : Int)) = true := by rw [heq]; simp
        have e2 : (l.length == m.length) = true := by rw [heq]; simp
        have e3 : ((l.length : Int) != (m.length : Int)) = false := by rw [bne, e1]; rfl
        have e4 : ¬ (l.length : Int) < (m.length : Int) := by omega
        have HF : Hid (R = ordFs f f') := Lib.hid (by rw [HR.out, e0.out, if_neg (by simp), ordFs_lex])
        have HL := Lib.hid heq
        clear hboth heq
        go_wp2
        go_loopw [8] (fun i wr => ∃ j : Nat, j ≤ f.length ∧ j ≤ f'.length ∧ i = .int .i64 j ∧ Hid (Below w.heap.size w wr) ∧ Hid (Cell4 wr w.heap.size (.slice a l.length c) (.slice g m.length d) (.slice a' f.length c') (.slice g' f'.length d')) ∧ w.heap.size + 1 < wr.heap.size ∧ Hid (ordFs f f' = lexL ordFd (f.drop j) (f'.drop j))) (fun i _ => f.length - (intOf i).toNat)
        case atStart => exact ⟨0, Nat.zero_le _, Nat.zero_le _, rfl, HBR, HC4, hlt0, Lib.hid (by rw [ordFs_lex]; simp)⟩
        case round =>
          clear HBR HC4 hlt0 hc0 hc1 hc2 hc3 hzr e1 e2 e3 e4 hj hj2 HEQ
          obtain ⟨j, hj, hj2, rfl, HBR, HC4, hlt0, HEQ⟩ := hrel
          have hzr := HBR.out.size
          obtain ⟨hc0, hc1, hc2, hc3⟩ := HC4.out
          by_cases hboth : j < f.length ∧ j < f'.length
          · obtain ⟨hjl, hjm⟩ := hboth
            have hat := lexL_at (f := ordFd) hjl hjm
            obtain ⟨b, off, cc, lv', fv', e1, hbl, hin, hel⟩ := (his.below HBR.out).field (i := j) hjl
            obtain ⟨b', off', cc', lw', fw', e2, hbl', hin', hel'⟩ := (hos.below HBR.out).field (i := j) hjm
            injection e1 with e1 e3 e4
            injection e2 with e2 e5 e6
            clear e3 e5
            subst e1 e2 e4 e6
            have hxd := HDF.out _ (List.getElem_mem hjl)
            simp only [V.fields] at hin hin' hel hel'
            obtain ⟨q0, q1, q2, q3, q4, q5, q6⟩ := hin.seven
            obtain ⟨p0, p1, p2, p3, p4, p5, p6⟩ := hin'.seven
            have hd1 : Hid (ordFd f[j] f'[j] = if (f[j]).1 ≠ (f'[j]).1 then cmpL (f[j]).1.data.toList (f'[j]).1.data.toList else V.ord (f[j]).2 (f'[j]).2) := Lib.hid rfl
            generalize ordFd f[j] f'[j] = q at hat hd1
            generalize (f[j]).1 = nm at q0 hd1
            generalize (f[j]).2 = x at q1 q2 q3 q4 q5 q6 hel hxd hd1
            generalize (f'[j]).1 = nm' at p0 hd1
            generalize (f'[j]).2 = z at p1 p2 p3 p4 p5 p6 hel' hd1
            obtain ⟨⟨ax, cx, rfl⟩, ⟨ax', cx', rfl⟩, _, _⟩ := hel.len
            obtain ⟨⟨bx, dx, rfl⟩, ⟨bx', dx', rfl⟩, _, _⟩ := hel'.len
            have hjl' : (j : Int) < (f.length : Int) := by omega
            have hjm' : (j : Int) < (f'.length : Int) := by omega
            have hj0 : (0 : Int) ≤ (j : Int) := by omega
            have HAT := Lib.hid hat
            clear hat
            by_cases hnm : nm = nm'
            · subst hnm
              have hq : Hid (q = x.ord z) := Lib.hid (by rw [hd1.out, if_neg (by simp)])
              clear hd1
              have g1 : (nm.toList == nm.toList) = true := by simp
              have g2 : (nm.toList != nm.toList) = false := by simp
              have hcall := fun n => ih x z _ _ _ _ (wr.drewN n).drew hxd (V.Is.below hel (rowB.below_drewN (Below.refl wr.heap.size wr) n).drew) (V.Is.below hel' (rowB.below_drewN (Below.refl wr.heap.size wr) n).drew)
              generalize x.ord z = r at hcall hq
              have HC := Lib.hid hcall
              clear hin hel hin' hel' hcall
              go_wp2_with fail
              go_quiet (fail)
              have HBQ := Lib.hid (rowB.below_drewN (Below.refl wr.heap.size wr) nq).drew
              go_wp2_with fail
              refine wp_region_still_tail 12 (by kernel_rfl) (by kernel_rfl) ?_
              change wpStill _ _ (World.drew _) (fun a' => wpList _ _ _ _ a' (World.drew _)) _ _
              simp only [List.take_succ_cons, List.take_zero, List.drop_succ_cons, List.drop_zero]
              repeat still_step
              refine wpStill_nil ?_
              have hcall2 := HC.out nq
              go_wp2_with fail
              refine hcall2.mono ?_
              rintro e w2 ⟨rfl, hb2'⟩
              have hb21 : Below wr.heap.size wr w2 := HBQ.out.trans hb2'
              have HB2 := Lib.hid (HBR.out.trans (hb21.mono hzr))
              have HC2 := Lib.hid (HC4.out.below hb21 hlt0)
              have hlt2 : w.heap.size + 1 < w2.heap.size := Nat.lt_of_lt_of_le hlt0 hb21.size
              clear hcall2 hb2' hb21 hc0 hc1 hc2 hc3 g1 g2
              by_cases hr : r = 0
              · subst hr
                have HN : Hid (ordFs f f' = lexL ordFd (f.drop (j + 1)) (f'.drop (j + 1))) := Lib.hid (by rw [HEQ.out, HAT.out, if_neg (by rw [hq.out]; simp)])
                go_wp2
                go_roundw
                case rel => exact ⟨j + 1, by omega, by omega, by go_num, HB2, HC2, hlt2, HN⟩
                case measure => simp [intOf]; omega
              · have HF2 : Hid (R = r) := Lib.hid (by rw [HF.out, HEQ.out, HAT.out, hq.out, if_pos hr])
                have g1 : (r == 0) = false := by rw [beq_eq_false_iff_ne]; exact hr
                have g2 : (r != 0) = true := by rw [bne, g1]; rfl
                clear hr
                go_wp2
                go_ret
                exact ⟨ret_i HF2.out.symm, HB2.out⟩
            · have hq : Hid (q = cmpL nm.data.toList nm'.data.toList) := Lib.hid (by rw [hd1.out, if_pos hnm])
              have hq0 : Hid (q ≠ 0) := Lib.hid (by rw [hq.out]; exact fun h => hnm (cmpB_zero.1 h))
              have HF2 : Hid (R = q) := Lib.hid (by rw [HF.out, HEQ.out, HAT.out, if_pos hq0.out])
              have hE := Lib.hid (less_text hnm)
              have g1 : (nm.toList == nm'.toList) = false := by
                rw [beq_eq_false_iff_ne, Lib.toList_data, Lib.toList_data]
                exact fun e => hnm (by apply ByteArray.ext; exact Array.toList_inj.1 e)
              have g2 : (nm.toList != nm'.toList) = true := by rw [bne, g1]; rfl
              clear hin hel hin' hel' hnm q1 q2 q3 q4 q5 q6 p1 p2 p3 p4 p5 p6
              go_wp2_with fail
              go_quiet (fail)
              go_wp2_with fail
              refine wp_region_still_tail 14 (by kernel_rfl) (by kernel_rfl) ?_
              change wpStill _ _ (World.drew _) (fun a' => wpList _ _ _ _ a' (World.drew _)) _ _
              simp only [List.take_succ_cons, List.take_zero, List.drop_succ_cons, List.drop_zero]
              repeat still_step
              refine wpStill_nil ?_
              go_wp2_with fail
              refine (less_any _ _).mono ?_
              rintro e w2 ⟨rfl, rfl⟩
              go_wp2
              go_ret
              exact ⟨ret_i (by rw [HF2.out, hq.out, hE.out]), (rowB.below_drewN HBR.out _).drew⟩
          · by_cases heq2 : f.length = f'.length
            · have e0 : Hid (R = 0) := Lib.hid (by rw [HF.out, HEQ.out, lexL_done (by omega) (by omega)])
              obtain rfl : j = f.length := by omega
              have e1 : ((f.length : Int) == (f'.length : Int)) = true := by rw [heq2]; simp
              have e2 : (f.length == f'.length) = true := by rw [heq2]; simp
              have e3 : ((f.length : Int) != (f'.length : Int)) = false := by rw [bne, e1]; rfl
              have HQ := Lib.hid heq2
              clear hboth heq2
              go_wp2
              go_ret
              exact ⟨ret_i e0.out.symm, HBR.out⟩
            · have e0 : Hid (R = lessI (decide ((f.length : Int) < (f'.length : Int)))) := Lib.hid (by
                rw [HF.out, HEQ.out, less_len]
                by_cases h : f.length < f'.length
                · rw [if_pos h, lexL_short (by omega) (by omega)]
                · rw [if_neg h, lexL_long (by omega) (by omega)])
              have e1 : ((f.length : Int) == (f'.length : Int)) = false := by rw [beq_eq_false_iff_ne]; omega
              have e2 : (f.length == f'.length) = false := by rw [beq_eq_false_iff_ne]; omega
              have e3 : ((f.length : Int) != (f'.length : Int)) = true := by rw [bne, e1]; rfl
              have e4 : (f.length != f'.length) = true := by rw [bne, e2]; rfl
              by_cases hjl : j < f.length
              · have hjl' : (j : Int) < (f.length : Int) := by omega
                have d2 : decide ((j : Int) < (f'.length : Int)) = false := decide_eq_false (by omega)
                have d3 : decide (j < f'.length) = false := decide_eq_false (by omega)
                clear hboth heq2
                go_wp2_with fail
                refine (less_any _ _).mono ?_
                rintro e w2 ⟨rfl, rfl⟩
                go_wp2
                go_ret
                exact ⟨ret_i (by rw [e0.out]; congr 1; simp), HBR.out⟩
              · have d2 : decide ((j : Int) < (f.length : Int)) = false := decide_eq_false (by omega)
                have d3 : decide (j < f.length) = false := decide_eq_false (by omega)
                clear hboth heq2
                go_wp2_with fail
                refine (less_any _ _).mono ?_
                rintro e w2 ⟨rfl, rfl⟩
                go_wp2
                go_ret
                exact ⟨ret_i (by rw [e0.out]; congr 1; simp), HBR.out⟩
      · have e0 : Hid (R = lessI (decide ((l.length : Int) < (m.length : Int)))) := Lib.hid (by
          rw [HR.out, HEQ.out, less_len]
          by_cases h : l.length < m.length
          · rw [if_pos h, lexL_short (by omega) (by omega)]; rfl
          · rw [if_neg h, lexL_long (by omega) (by omega)]; rfl)
        have e1 : ((l.length : Int) == (m.length : Int)) = false := by rw [beq_eq_false_iff_ne]; omega
        have e2 : (l.length == m.length) = false := by rw [beq_eq_false_iff_ne]; omega
        have e3 : ((l.length : Int) != (m.length : Int)) = true := by rw [bne, e1]; rfl
        have e4 : (l.length != m.length) = true := by rw [bne, e2]; rfl
        by_cases hjl : j < l.length
        · have hjl' : (j : Int) < (l.length : Int) := by omega
          have d2 : decide ((j : Int) < (m.length : Int)) = false := decide_eq_false (by omega)
          have d3 : decide (j < m.length) = false := decide_eq_false (by omega)
          clear hboth heq
          go_wp2_with fail
          refine (less_any _ _).mono ?_
          rintro e w2 ⟨rfl, rfl⟩
          go_wp2
          go_ret
          exact ⟨ret_i (by rw [e0.out]; congr 1; simp), HBR.out⟩
        · have d2 : decide ((j : Int) < (l.length : Int)) = false := decide_eq_false (by omega)
          have d3 : decide (j < l.length) = false := decide_eq_false (by omega)
          clear hboth heq
          go_wp2_with fail
          refine (less_any _ _).mono ?_
          rintro e w2 ⟨rfl, rfl⟩
          go_wp2
          go_ret
          exact ⟨ret_i (by rw [e0.out]; congr 1; simp), HBR.out⟩

theorem ord_step (N : Nat) (ih : OrdOK N) : OrdOK (N + 1) := by
  intro v o lv fv lo fo w hdep his hos
  have e := ord_eq v o
  obtain ⟨⟨a, c, rfl⟩, ⟨a', c', rfl⟩, _, _⟩ := his.len
  obtain ⟨⟨g, d, rfl⟩, ⟨g', d', rfl⟩, _, _⟩ := hos.len
  by_cases h1 : v.kind = o.kind
  · by_cases h2 : v.yes = o.yes
    · by_cases h3 : v.num = o.num
      · by_cases h4 : v.text = o.text
        · rw [e, if_neg (fun h => h h1), if_neg (fun h => h h2), if_neg (fun h => h h3), if_neg (fun h => h h4)]
          have hdl : ∀ x ∈ v.list, x.dep ≤ N := fun x hx => by have := dep_list hx; omega
          have hdf : ∀ p ∈ v.fields, p.2.dep ≤ N := fun p hp => by have := dep_fields hp; omega
          obtain ⟨k, y, n, t, l, f⟩ := v
          obtain ⟨k', y', n', t', m, f'⟩ := o
          have h1 : k = k' := h1
          have h2 : y = y' := h2
          have h3 : n = n' := h3
          have h4 : t = t' := h4
          subst h1 h2 h3 h4
          exact ord_rest N ih k y n t l m f f' hdl hdf _ _ _ _ w his hos
        · exact ord_head _ _ _ _ _ _ _ _ _ _ _ _ _ _ _ _ _ _ _ _ w _ (.inr (.inr (.inr ⟨h1, h2, h3, h4, by rw [e, if_neg (fun h => h h1), if_neg (fun h => h h2), if_neg (fun h => h h3), if_pos h4]⟩)))
      · exact ord_head _ _ _ _ _ _ _ _ _ _ _ _ _ _ _ _ _ _ _ _ w _ (.inr (.inr (.inl ⟨h1, h2, h3, by rw [e, if_neg (fun h => h h1), if_neg (fun h => h h2), if_pos h3]⟩)))
    · exact ord_head _ _ _ _ _ _ _ _ _ _ _ _ _ _ _ _ _ _ _ _ w _ (.inr (.inl ⟨h1, h2, by rw [e, if_neg (fun h => h h1), if_pos h2]⟩))
  · exact ord_head _ _ _ _ _ _ _ _ _ _ _ _ _ _ _ _ _ _ _ _ w _ (.inl ⟨h1, by rw [e, if_pos h1]⟩)

theorem ord_all : ∀ N, OrdOK N
  | 0 => fun v o lv fv lo fo w hd _ _ => by
    cases v
    rw [V.dep] at hd
    omega
  | N + 1 => ord_step N (ord_all N)

theorem ord_any (v o : V) (lv fv lo fo : Value) (w : World) (hv : v.Is w lv fv) (ho : o.Is w lo fo) :
    Calls Try.prog 22 #[.agg #[.int .i64 v.kind, .bool v.yes, .int .i64 v.num, .string v.text, lv, fv], .agg #[.int .i64 o.kind, .bool o.yes, .int .i64 o.num, .string o.text, lo, fo]] w fun e w' => e = .returned (.int .i64 (v.ord o)) ∧ Below w.heap.size w w' :=
  ord_all v.dep v o lv fv lo fo w (Nat.le_refl _) hv ho

end Go.Proofs.Ytmodegncifopaaa
end

section
namespace Go.Proofs.Ytmodegncifopaaa.valOrders
open Go.RowKit

/-- a value in a box of six cells, b; what it leads to lies from n on -/
def In6 (w : World) (n b : Nat) (u : V) : Prop := ∃ a1 c1 a2 c2, Box w b 26 #[.int .i64 u.kind, .bool u.yes, .int .i64 u.num, .string u.text, .slice a1 u.list.length c1, .slice a2 u.fields.length c2] ∧ u.At w (fun q => n ≤ q) (.slice a1 u.list.length c1) (.slice a2 u.fields.length c2)

theorem In6.below {w W : World} {n b : Nat} {u : V} (h : In6 w n b u) (hb : Below w.heap.size w W) : In6 W n b u := by
  obtain ⟨a1, c1, a2, c2, h1, h2⟩ := h
  exact ⟨a1, c1, a2, c2, (hb.block b h1.lt).trans h1, V.At.move (fun q hS hlt => ⟨hS, hb.block q hlt⟩) hb.size _ (Nat.le_refl _) h2⟩

/-- a block that is neither the box nor from n on may turn -/
theorem In6.keep {w W : World} {n b x : Nat} {u : V} (h : In6 w n b u) (hx : x ≠ b) (hxn : x < n) (hk : ∀ q, q ≠ x → W.heap[q]? = w.heap[q]?) (hz : w.heap.size ≤ W.heap.size) : In6 W n b u := by
  obtain ⟨a1, c1, a2, c2, h1, h2⟩ := h
  exact ⟨a1, c1, a2, c2, (hk b (Ne.symm hx)).trans h1, V.At.move (fun q hS hlt => ⟨hS, hk q (by omega)⟩) hz _ (Nat.le_refl _) h2⟩

theorem box_keep {w W : World} {b x : Nat} {t : TypeId} {cs : Array Value} (h : Box w b t cs) (hx : x ≠ b) (hk : ∀ q, q ≠ x → W.heap[q]? = w.heap[q]?) : Box W b t cs := (hk b (Ne.symm hx)).trans h

/-- six cells stored into a box: the chain of stores as a walk lays it -/
def st6 (w : World) (b : Nat) (c0 c1 c2 c3 c4 c5 : Value) : World :=
  (((((w.setCell ⟨b, 0, none⟩ c0).setCell ⟨b, 1, none⟩ c1).setCell ⟨b, 2, none⟩ c2).setCell ⟨b, 3, none⟩ c3).setCell ⟨b, 4, none⟩ c4).setCell ⟨b, 5, none⟩ c5

theorem st6_box {w : World} {b : Nat} {t : TypeId} {x0 x1 x2 x3 x4 x5 : Value} (h : Box w b t #[x0, x1, x2, x3, x4, x5]) (c0 c1 c2 c3 c4 c5 : Value) : Box (st6 w b c0 c1 c2 c3 c4 c5) b t #[c0, c1, c2, c3, c4, c5] := by
  have h1 := (((((h.setSame 0 c0).setSame 1 c1).setSame 2 c2).setSame 3 c3).setSame 4 c4).setSame 5 c5
  exact h1
theorem st6_far {w : World} {b : Nat} (c0 c1 c2 c3 c4 c5 : Value) : ∀ q, q ≠ b → (st6 w b c0 c1 c2 c3 c4 c5).heap[q]? = w.heap[q]? := fun q hq =>
  (Below.heap_setCell _ ⟨b, 5, none⟩ _ q hq).trans ((Below.heap_setCell _ ⟨b, 4, none⟩ _ q hq).trans ((Below.heap_setCell _ ⟨b, 3, none⟩ _ q hq).trans ((Below.heap_setCell _ ⟨b, 2, none⟩ _ q hq).trans ((Below.heap_setCell _ ⟨b, 1, none⟩ _ q hq).trans (Below.heap_setCell _ ⟨b, 0, none⟩ _ q hq)))))
theorem st6_size {w : World} {b : Nat} (c0 c1 c2 c3 c4 c5 : Value) : (st6 w b c0 c1 c2 c3 c4 c5).heap.size = w.heap.size := by simp [st6, World.setCell]
theorem st6_below {a w : World} {B b : Nat} (h : Below B a w) (hB : B ≤ b) (c0 c1 c2 c3 c4 c5 : Value) : Below B a (st6 w b c0 c1 c2 c3 c4 c5) :=
  (((((h.setCell hB _).setCell hB _).setCell hB _).setCell hB _).setCell hB _).setCell hB _

/-- behind 'x = Right(x)' -/
theorem in6_new {W3 W4 : World} {n b : Nat} {t0 : Array Value} {x0 x1 x2 x3 x4 x5 : Value} (ht : t0 = #[x0, x1, x2, x3, x4, x5]) (hbox : Box W4 b 26 t0) (hb : b < n) (hn : n ≤ W3.heap.size) (u : V) (a1 : Option Addr) (c1 : Nat) (a2 : Option Addr) (c2 : Nat)
    (hat : u.At W4 (fun q => W3.heap.size ≤ q) (.slice a1 u.list.length c1) (.slice a2 u.fields.length c2)) :
    In6 (st6 W4 b (.int .i64 u.kind) (.bool u.yes) (.int .i64 u.num) (.string u.text) (.slice a1 u.list.length c1) (.slice a2 u.fields.length c2)) n b u := by
  subst ht
  refine ⟨a1, c1, a2, c2, st6_box hbox _ _ _ _ _ _, V.At.move (fun q hS hlt => ⟨by omega, st6_far _ _ _ _ _ _ q (by omega)⟩) (by rw [st6_size]; exact Nat.le_refl _) _ (Nat.le_refl _) hat⟩

theorem In6.six {w : World} {n b : Nat} {u : V} (h : In6 w n b u) : ∃ a1 c1 a2 c2, (w.cell? ⟨b, 0, none⟩ = some (.int .i64 u.kind) ∧ w.cell? ⟨b, 1, none⟩ = some (.bool u.yes) ∧ w.cell? ⟨b, 2, none⟩ = some (.int .i64 u.num) ∧ w.cell? ⟨b, 3, none⟩ = some (.string u.text) ∧ w.cell? ⟨b, 4, none⟩ = some (.slice a1 u.list.length c1) ∧ w.cell? ⟨b, 5, none⟩ = some (.slice a2 u.fields.length c2)) ∧ u.Is w (.slice a1 u.list.length c1) (.slice a2 u.fields.length c2) := by
  obtain ⟨a1, c1, a2, c2, h1, h2⟩ := h
  exact ⟨a1, c1, a2, c2, h1.six.1, h2.is⟩

theorem sign_any (n : Int) (hn : Three n) (w : World) : Calls Try.prog 20 #[.int .i64 n] w fun e w' => e = .returned (.int .i64 n) ∧ w = w' := by
  rcases hn with rfl | rfl | rfl <;>
    (go_enter Try.func20, Try.ntmps20
     go_wp2
     go_ret
     exact ⟨rfl, rfl⟩)

end Go.Proofs.Ytmodegncifopaaa.valOrders
end

section
namespace Go.Proofs.Ytmodegncifopaaa.valOrders
open Go.RowKit

theorem three_in (w : World) (cs ds es : Array Value) (t : TypeId) : ∀ w', Below (w.heap.size + 3) (((w.alloc (.cells cs t)).alloc (.cells ds t)).alloc (.cells es t)) w' →
    Below w.heap.size w w' ∧ w.heap.size + 2 < w'.heap.size ∧ Box w' w.heap.size t cs ∧ Box w' (w.heap.size + 1) t ds ∧ Box w' (w.heap.size + 2) t es := by
  intro w' hb
  have hz : (((w.alloc (.cells cs t)).alloc (.cells ds t)).alloc (.cells es t)).heap.size = w.heap.size + 3 := by simp
  have hb0 : Below w.heap.size w (((w.alloc (.cells cs t)).alloc (.cells ds t)).alloc (.cells es t)) := (((Below.refl _ w).alloc (Nat.le_refl _) _).alloc (by simp) _).alloc (by simp; omega) _
  have e1 : (w.alloc (.cells cs t)).heap.size = w.heap.size + 1 := by simp
  have e2 : ((w.alloc (.cells cs t)).alloc (.cells ds t)).heap.size = w.heap.size + 2 := by simp
  refine ⟨hb0.trans (hb.mono (by omega)), by have := hb.size; omega, ?_, ?_, ?_⟩
  · exact (hb.block _ (by omega)).trans (((Box.new w t cs).alloc (.cells ds t)).alloc (.cells es t))
  · have h := (Box.new (w.alloc (.cells cs t)) t ds).alloc (.cells es t)
    rw [e1] at h
    exact (hb.block _ (by omega)).trans h
  · have h := Box.new ((w.alloc (.cells cs t)).alloc (.cells ds t)) t es
    rw [e2] at h
    exact (hb.block _ (by omega)).trans h

set_option maxHeartbeats 4000000 in
set_option maxRecDepth 100000 in
theorem walk_f1 (v o p : V) (lv fv lo fo lp fp : Value) (w : World) (hv : v.Is w lv fv) (ho : o.Is w lo fo) (hp : p.Is w lp fp) (hf : Hid (v.few 0 = false)) :
    Calls Try.prog 5 #[.agg #[.int .i64 v.kind, .bool v.yes, .int .i64 v.num, .string v.text, lv, fv], .agg #[.int .i64 o.kind, .bool o.yes, .int .i64 o.num, .string o.text, lo, fo], .agg #[.int .i64 p.kind, .bool p.yes, .int .i64 p.num, .string p.text, lp, fp]] w fun e w' => e = .returned (.bool true) ∧ Below w.heap.size w w' := by
  obtain ⟨⟨a0, c0, rfl⟩, ⟨a0', c0', rfl⟩, _, _⟩ := hv.len
  obtain ⟨⟨a1, c1, rfl⟩, ⟨a1', c1', rfl⟩, _, _⟩ := ho.len
  obtain ⟨⟨a2, c2, rfl⟩, ⟨a2', c2', rfl⟩, _, _⟩ := hp.len
  have HS : Hid (∀ w', Below w.heap.size w w' → v.Is w' (.slice a0 v.list.length c0) (.slice a0' v.fields.length c0')) := Lib.hid (fun w' hb => hv.below hb)
  have HO : Hid (∀ w', Below w.heap.size w w' → o.Is w' (.slice a1 o.list.length c1) (.slice a1' o.fields.length c1')) := Lib.hid (fun w' hb => ho.below hb)
  have HP : Hid (∀ w', Below w.heap.size w w' → p.Is w' (.slice a2 p.list.length c2) (.slice a2' p.fields.length c2')) := Lib.hid (fun w' hb => hp.below hb)
  have HX : Hid (∀ w', Below (w.heap.size + 3) (((w.alloc (.cells #[.int .i64 v.kind, .bool v.yes, .int .i64 v.num, .string v.text, .slice a0 v.list.length c0, .slice a0' v.fields.length c0'] 26)).alloc (.cells #[.int .i64 o.kind, .bool o.yes, .int .i64 o.num, .string o.text, .slice a1 o.list.length c1, .slice a1' o.fields.length c1'] 26)).alloc (.cells #[.int .i64 p.kind, .bool p.yes, .int .i64 p.num, .string p.text, .slice a2 p.list.length c2, .slice a2' p.fields.length c2'] 26)) w' → Below w.heap.size w w' ∧ w.heap.size + 2 < w'.heap.size ∧ Box w' w.heap.size 26 #[.int .i64 v.kind, .bool v.yes, .int .i64 v.num, .string v.text, .slice a0 v.list.length c0, .slice a0' v.fields.length c0'] ∧ Box w' (w.heap.size + 1) 26 #[.int .i64 o.kind, .bool o.yes, .int .i64 o.num, .string o.text, .slice a1 o.list.length c1, .slice a1' o.fields.length c1'] ∧ Box w' (w.heap.size + 2) 26 #[.int .i64 p.kind, .bool p.yes, .int .i64 p.num, .string p.text, .slice a2 p.list.length c2, .slice a2' p.fields.length c2']) := Lib.hid (three_in w _ _ _ _)
  clear hv ho hp
  go_enter Try.func5, Try.ntmps5
  go_wp2_with fail
  refine (head_any _).mono ?_
  rintro e w1 ⟨rfl, hb1⟩
  have HB1 := Lib.hid (hb1.mono (B' := w.heap.size + 3) (by simp))
  clear hb1
  obtain ⟨hbw, _, bx0, bx1, bx2⟩ := HX.out _ HB1.out
  obtain ⟨⟨x0, x1, x2, x3, x4, x5⟩, f0, f1, f2, f3, f4, f5⟩ := bx0.six
  obtain ⟨⟨y0, y1, y2, y3, y4, y5⟩, _⟩ := bx1.six
  obtain ⟨⟨z0, z1, z2, z3, z4, z5⟩, _⟩ := bx2.six
  have hfew := few_any v _ _ w1 (HS.out _ hbw)
  rw [hf.out] at hfew
  have HFW := Lib.hid hfew
  clear hfew
  go_wp2_with fail
  refine HFW.out.mono ?_
  rintro e w2 ⟨rfl, hb⟩
  have HB2 := Lib.hid (HB1.out.trans (hb.mono (by have := (HX.out _ HB1.out).2.1; omega)))
  clear HFW hb x0 x1 x2 x3 x4 x5 y0 y1 y2 y3 y4 y5 z0 z1 z2 z3 z4 z5 f0 f1 f2 f3 f4 f5 bx0 bx1 bx2 hbw
  go_wp2
  go_ret
  exact ⟨rfl, (HX.out _ HB2.out).1⟩

set_option maxHeartbeats 4000000 in
set_option maxRecDepth 100000 in
theorem walk_f2 (v o p : V) (lv fv lo fo lp fp : Value) (w : World) (hv : v.Is w lv fv) (ho : o.Is w lo fo) (hp : p.Is w lp fp) (hf : Hid (v.few 0 = true)) (hg : Hid (o.few 0 = false)) :
    Calls Try.prog 5 #[.agg #[.int .i64 v.kind, .bool v.yes, .int .i64 v.num, .string v.text, lv, fv], .agg #[.int .i64 o.kind, .bool o.yes, .int .i64 o.num, .string o.text, lo, fo], .agg #[.int .i64 p.kind, .bool p.yes, .int .i64 p.num, .string p.text, lp, fp]] w fun e w' => e = .returned (.bool true) ∧ Below w.heap.size w w' := by
  obtain ⟨⟨a0, c0, rfl⟩, ⟨a0', c0', rfl⟩, _, _⟩ := hv.len
  obtain ⟨⟨a1, c1, rfl⟩, ⟨a1', c1', rfl⟩, _, _⟩ := ho.len
  obtain ⟨⟨a2, c2, rfl⟩, ⟨a2', c2', rfl⟩, _, _⟩ := hp.len
  have HS : Hid (∀ w', Below w.heap.size w w' → v.Is w' (.slice a0 v.list.length c0) (.slice a0' v.fields.length c0')) := Lib.hid (fun w' hb => hv.below hb)
  have HO : Hid (∀ w', Below w.heap.size w w' → o.Is w' (.slice a1 o.list.length c1) (.slice a1' o.fields.length c1')) := Lib.hid (fun w' hb => ho.below hb)
  have HP : Hid (∀ w', Below w.heap.size w w' → p.Is w' (.slice a2 p.list.length c2) (.slice a2' p.fields.length c2')) := Lib.hid (fun w' hb => hp.below hb)
  have HX : Hid (∀ w', Below (w.heap.size + 3) (((w.alloc (.cells #[.int .i64 v.kind, .bool v.yes, .int .i64 v.num, .string v.text, .slice a0 v.list.length c0, .slice a0' v.fields.length c0'] 26)).alloc (.cells #[.int .i64 o.kind, .bool o.yes, .int .i64 o.num, .string o.text, .slice a1 o.list.length c1, .slice a1' o.fields.length c1'] 26)).alloc (.cells #[.int .i64 p.kind, .bool p.yes, .int .i64 p.num, .string p.text, .slice a2 p.list.length c2, .slice a2' p.fields.length c2'] 26)) w' → Below w.heap.size w w' ∧ w.heap.size + 2 < w'.heap.size ∧ Box w' w.heap.size 26 #[.int .i64 v.kind, .bool v.yes, .int .i64 v.num, .string v.text, .slice a0 v.list.length c0, .slice a0' v.fields.length c0'] ∧ Box w' (w.heap.size + 1) 26 #[.int .i64 o.kind, .bool o.yes, .int .i64 o.num, .string o.text, .slice a1 o.list.length c1, .slice a1' o.fields.length c1'] ∧ Box w' (w.heap.size + 2) 26 #[.int .i64 p.kind, .bool p.yes, .int .i64 p.num, .string p.text, .slice a2 p.list.length c2, .slice a2' p.fields.length c2']) := Lib.hid (three_in w _ _ _ _)
  clear hv ho hp
  go_enter Try.func5, Try.ntmps5
  go_wp2_with fail
  refine (head_any _).mono ?_
  rintro e w1 ⟨rfl, hb1⟩
  have HB1 := Lib.hid (hb1.mono (B' := w.heap.size + 3) (by simp))
  clear hb1
  obtain ⟨hbw, _, bx0, bx1, bx2⟩ := HX.out _ HB1.out
  obtain ⟨⟨x0, x1, x2, x3, x4, x5⟩, f0, f1, f2, f3, f4, f5⟩ := bx0.six
  obtain ⟨⟨y0, y1, y2, y3, y4, y5⟩, _⟩ := bx1.six
  obtain ⟨⟨z0, z1, z2, z3, z4, z5⟩, _⟩ := bx2.six
  have hfew := few_any v _ _ w1 (HS.out _ hbw)
  rw [hf.out] at hfew
  have HFW := Lib.hid hfew
  clear hfew
  go_wp2_with fail
  refine HFW.out.mono ?_
  rintro e w2 ⟨rfl, hb⟩
  have HB2 := Lib.hid (HB1.out.trans (hb.mono (by have := (HX.out _ HB1.out).2.1; omega)))
  clear HFW hb x0 x1 x2 x3 x4 x5 y0 y1 y2 y3 y4 y5 z0 z1 z2 z3 z4 z5 f0 f1 f2 f3 f4 f5 bx0 bx1 bx2 hbw
  obtain ⟨hbw, _, bx0, bx1, bx2⟩ := HX.out _ HB2.out
  obtain ⟨⟨x0, x1, x2, x3, x4, x5⟩, f0, f1, f2, f3, f4, f5⟩ := bx0.six
  obtain ⟨⟨y0, y1, y2, y3, y4, y5⟩, _⟩ := bx1.six
  obtain ⟨⟨z0, z1, z2, z3, z4, z5⟩, _⟩ := bx2.six
  have hfew := few_any o _ _ w2 (HO.out _ hbw)
  rw [hg.out] at hfew
  have HFW := Lib.hid hfew
  clear hfew
  go_wp2_with fail
  refine HFW.out.mono ?_
  rintro e w3 ⟨rfl, hb⟩
  have HB3 := Lib.hid (HB2.out.trans (hb.mono (by have := (HX.out _ HB2.out).2.1; omega)))
  clear HFW hb x0 x1 x2 x3 x4 x5 y0 y1 y2 y3 y4 y5 z0 z1 z2 z3 z4 z5 f0 f1 f2 f3 f4 f5 bx0 bx1 bx2 hbw
  go_wp2
  go_ret
  exact ⟨rfl, (HX.out _ HB3.out).1⟩

set_option maxHeartbeats 4000000 in
set_option maxRecDepth 100000 in
theorem walk_f3 (v o p : V) (lv fv lo fo lp fp : Value) (w : World) (hv : v.Is w lv fv) (ho : o.Is w lo fo) (hp : p.Is w lp fp) (hf : Hid (v.few 0 = true)) (hg : Hid (o.few 0 = true)) (hh : Hid (p.few 0 = false)) :
    Calls Try.prog 5 #[.agg #[.int .i64 v.kind, .bool v.yes, .int .i64 v.num, .string v.text, lv, fv], .agg #[.int .i64 o.kind, .bool o.yes, .int .i64 o.num, .string o.text, lo, fo], .agg #[.int .i64 p.kind, .bool p.yes, .int .i64 p.num, .string p.text, lp, fp]] w fun e w' => e = .returned (.bool true) ∧ Below w.heap.size w w' := by
  obtain ⟨⟨a0, c0, rfl⟩, ⟨a0', c0', rfl⟩, _, _⟩ := hv.len
  obtain ⟨⟨a1, c1, rfl⟩, ⟨a1', c1', rfl⟩, _, _⟩ := ho.len
  obtain ⟨⟨a2, c2, rfl⟩, ⟨a2', c2', rfl⟩, _, _⟩ := hp.len
  have HS : Hid (∀ w', Below w.heap.size w w' → v.Is w' (.slice a0 v.list.length c0) (.slice a0' v.fields.length c0')) := Lib.hid (fun w' hb => hv.below hb)
  have HO : Hid (∀ w', Below w.heap.size w w' → o.Is w' (.slice a1 o.list.length c1) (.slice a1' o.fields.length c1')) := Lib.hid (fun w' hb => ho.below hb)
  have HP : Hid (∀ w', Below w.heap.size w w' → p.Is w' (.slice a2 p.list.length c2) (.slice a2' p.fields.length c2')) := Lib.hid (fun w' hb => hp.below hb)
  have HX : Hid (∀ w', Below (w.heap.size + 3) (((w.alloc (.cells #[.int .i64 v.kind, .bool v.yes, .int .i64 v.num, .string v.text, .slice a0 v.list.length c0, .slice a0' v.fields.length c0'] 26)).alloc (.cells #[.int .i64 o.kind, .bool o.yes, .int .i64 o.num, .string o.text, .slice a1 o.list.length c1, .slice a1' o.fields.length c1'] 26)).alloc (.cells #[.int .i64 p.kind, .bool p.yes, .int .i64 p.num, .string p.text, .slice a2 p.list.length c2, .slice a2' p.fields.length c2'] 26)) w' → Below w.heap.size w w' ∧ w.heap.size + 2 < w'.heap.size ∧ Box w' w.heap.size 26 #[.int .i64 v.kind, .bool v.yes, .int .i64 v.num, .string v.text, .slice a0 v.list.length c0, .slice a0' v.fields.length c0'] ∧ Box w' (w.heap.size + 1) 26 #[.int .i64 o.kind, .bool o.yes, .int .i64 o.num, .string o.text, .slice a1 o.list.length c1, .slice a1' o.fields.length c1'] ∧ Box w' (w.heap.size + 2) 26 #[.int .i64 p.kind, .bool p.yes, .int .i64 p.num, .string p.text, .slice a2 p.list.length c2, .slice a2' p.fields.length c2']) := Lib.hid (three_in w _ _ _ _)
  clear hv ho hp
  go_enter Try.func5, Try.ntmps5
  go_wp2_with fail
  refine (head_any _).mono ?_
  rintro e w1 ⟨rfl, hb1⟩
  have HB1 := Lib.hid (hb1.mono (B' := w.heap.size + 3) (by simp))
  clear hb1
  obtain ⟨hbw, _, bx0, bx1, bx2⟩ := HX.out _ HB1.out
  obtain ⟨⟨x0, x1, x2, x3, x4, x5⟩, f0, f1, f2, f3, f4, f5⟩ := bx0.six
  obtain ⟨⟨y0, y1, y2, y3, y4, y5⟩, _⟩ := bx1.six
  obtain ⟨⟨z0, z1, z2, z3, z4, z5⟩, _⟩ := bx2.six
  have hfew := few_any v _ _ w1 (HS.out _ hbw)
  rw [hf.out] at hfew
  have HFW := Lib.hid hfew
  clear hfew
  go_wp2_with fail
  refine HFW.out.mono ?_
  rintro e w2 ⟨rfl, hb⟩
  have HB2 := Lib.hid (HB1.out.trans (hb.mono (by have := (HX.out _ HB1.out).2.1; omega)))
  clear HFW hb x0 x1 x2 x3 x4 x5 y0 y1 y2 y3 y4 y5 z0 z1 z2 z3 z4 z5 f0 f1 f2 f3 f4 f5 bx0 bx1 bx2 hbw
  obtain ⟨hbw, _, bx0, bx1, bx2⟩ := HX.out _ HB2.out
  obtain ⟨⟨x0, x1, x2, x3, x4, x5⟩, f0, f1, f2, f3, f4, f5⟩ := bx0.six
  obtain ⟨⟨y0, y1, y2, y3, y4, y5⟩, _⟩ := bx1.six
  obtain ⟨⟨z0, z1, z2, z3, z4, z5⟩, _⟩ := bx2.six
  have hfew := few_any o _ _ w2 (HO.out _ hbw)
  rw [hg.out] at hfew
  have HFW := Lib.hid hfew
  clear hfew
  go_wp2_with fail
  refine HFW.out.mono ?_
  rintro e w3 ⟨rfl, hb⟩
  have HB3 := Lib.hid (HB2.out.trans (hb.mono (by have := (HX.out _ HB2.out).2.1; omega)))
  clear HFW hb x0 x1 x2 x3 x4 x5 y0 y1 y2 y3 y4 y5 z0 z1 z2 z3 z4 z5 f0 f1 f2 f3 f4 f5 bx0 bx1 bx2 hbw
  obtain ⟨hbw, _, bx0, bx1, bx2⟩ := HX.out _ HB3.out
  obtain ⟨⟨x0, x1, x2, x3, x4, x5⟩, f0, f1, f2, f3, f4, f5⟩ := bx0.six
  obtain ⟨⟨y0, y1, y2, y3, y4, y5⟩, _⟩ := bx1.six
  obtain ⟨⟨z0, z1, z2, z3, z4, z5⟩, _⟩ := bx2.six
  have hfew := few_any p _ _ w3 (HP.out _ hbw)
  rw [hh.out] at hfew
  have HFW := Lib.hid hfew
  clear hfew
  go_wp2_with fail
  refine HFW.out.mono ?_
  rintro e w4 ⟨rfl, hb⟩
  have HB4 := Lib.hid (HB3.out.trans (hb.mono (by have := (HX.out _ HB3.out).2.1; omega)))
  clear HFW hb x0 x1 x2 x3 x4 x5 y0 y1 y2 y3 y4 y5 z0 z1 z2 z3 z4 z5 f0 f1 f2 f3 f4 f5 bx0 bx1 bx2 hbw
  go_wp2
  go_ret
  exact ⟨rfl, (HX.out _ HB4.out).1⟩

end Go.Proofs.Ytmodegncifopaaa.valOrders
end

section
namespace Go.Proofs.Ytmodegncifopaaa.valOrders
open Go.RowKit

def St (w W : World) (u z q : V) : Prop := Below w.heap.size w W ∧ In6 W (w.heap.size + 3) w.heap.size u ∧ In6 W (w.heap.size + 3) (w.heap.size + 1) z ∧ In6 W (w.heap.size + 3) (w.heap.size + 2) q
theorem St.below {w W W' : World} {u z q : V} (h : St w W u z q) (hb : Below W.heap.size W W') : St w W' u z q := ⟨h.1.trans (hb.mono h.1.size), h.2.1.below hb, h.2.2.1.below hb, h.2.2.2.below hb⟩

set_option maxHeartbeats 4000000 in
set_option maxRecDepth 100000 in
theorem walk_main (v o p : V) (lv fv lo fo lp fp : Value) (w : World) (hv : v.Is w lv fv) (ho : o.Is w lo fo) (hp : p.Is w lp fp) (hf : Hid (v.few 0 = true)) (hg : Hid (o.few 0 = true)) (hh : Hid (p.few 0 = true)) :
    Calls Try.prog 5 #[.agg #[.int .i64 v.kind, .bool v.yes, .int .i64 v.num, .string v.text, lv, fv], .agg #[.int .i64 o.kind, .bool o.yes, .int .i64 o.num, .string o.text, lo, fo], .agg #[.int .i64 p.kind, .bool p.yes, .int .i64 p.num, .string p.text, lp, fp]] w fun e w' => e = .returned (.bool true) ∧ Below w.heap.size w w' := by
  obtain ⟨⟨a0, c0, rfl⟩, ⟨a0', c0', rfl⟩, _, _⟩ := hv.len
  obtain ⟨⟨a1, c1, rfl⟩, ⟨a1', c1', rfl⟩, _, _⟩ := ho.len
  obtain ⟨⟨a2, c2, rfl⟩, ⟨a2', c2', rfl⟩, _, _⟩ := hp.len
  have HS : Hid (∀ w', Below w.heap.size w w' → v.Is w' (.slice a0 v.list.length c0) (.slice a0' v.fields.length c0')) := Lib.hid (fun w' hb => hv.below hb)
  have HO : Hid (∀ w', Below w.heap.size w w' → o.Is w' (.slice a1 o.list.length c1) (.slice a1' o.fields.length c1')) := Lib.hid (fun w' hb => ho.below hb)
  have HP : Hid (∀ w', Below w.heap.size w w' → p.Is w' (.slice a2 p.list.length c2) (.slice a2' p.fields.length c2')) := Lib.hid (fun w' hb => hp.below hb)
  have HX : Hid (∀ w', Below (w.heap.size + 3) (((w.alloc (.cells #[.int .i64 v.kind, .bool v.yes, .int .i64 v.num, .string v.text, .slice a0 v.list.length c0, .slice a0' v.fields.length c0'] 26)).alloc (.cells #[.int .i64 o.kind, .bool o.yes, .int .i64 o.num, .string o.text, .slice a1 o.list.length c1, .slice a1' o.fields.length c1'] 26)).alloc (.cells #[.int .i64 p.kind, .bool p.yes, .int .i64 p.num, .string p.text, .slice a2 p.list.length c2, .slice a2' p.fields.length c2'] 26)) w' → Below w.heap.size w w' ∧ w.heap.size + 2 < w'.heap.size ∧ Box w' w.heap.size 26 #[.int .i64 v.kind, .bool v.yes, .int .i64 v.num, .string v.text, .slice a0 v.list.length c0, .slice a0' v.fields.length c0'] ∧ Box w' (w.heap.size + 1) 26 #[.int .i64 o.kind, .bool o.yes, .int .i64 o.num, .string o.text, .slice a1 o.list.length c1, .slice a1' o.fields.length c1'] ∧ Box w' (w.heap.size + 2) 26 #[.int .i64 p.kind, .bool p.yes, .int .i64 p.num, .string p.text, .slice a2 p.list.length c2, .slice a2' p.fields.length c2']) := Lib.hid (three_in w _ _ _ _)
  clear hv ho hp
  go_enter Try.func5, Try.ntmps5
  go_wp2_with fail
  refine (head_any _).mono ?_
  rintro e w1 ⟨rfl, hb1⟩
  have HB1 := Lib.hid (hb1.mono (B' := w.heap.size + 3) (by simp))
  clear hb1
  obtain ⟨hbw, _, bx0, bx1, bx2⟩ := HX.out _ HB1.out
  obtain ⟨⟨x0, x1, x2, x3, x4, x5⟩, f0, f1, f2, f3, f4, f5⟩ := bx0.six
  obtain ⟨⟨y0, y1, y2, y3, y4, y5⟩, _⟩ := bx1.six
  obtain ⟨⟨z0, z1, z2, z3, z4, z5⟩, _⟩ := bx2.six
  have hfew := few_any v _ _ w1 (HS.out _ hbw)
  rw [hf.out] at hfew
  have HFW := Lib.hid hfew
  clear hfew
  go_wp2_with fail
  refine HFW.out.mono ?_
  rintro e w2 ⟨rfl, hb⟩
  have HB2 := Lib.hid (HB1.out.trans (hb.mono (by have := (HX.out _ HB1.out).2.1; omega)))
  clear HFW hb x0 x1 x2 x3 x4 x5 y0 y1 y2 y3 y4 y5 z0 z1 z2 z3 z4 z5 f0 f1 f2 f3 f4 f5 bx0 bx1 bx2 hbw
  obtain ⟨hbw, _, bx0, bx1, bx2⟩ := HX.out _ HB2.out
  obtain ⟨⟨x0, x1, x2, x3, x4, x5⟩, f0, f1, f2, f3, f4, f5⟩ := bx0.six
  obtain ⟨⟨y0, y1, y2, y3, y4, y5⟩, _⟩ := bx1.six
  obtain ⟨⟨z0, z1, z2, z3, z4, z5⟩, _⟩ := bx2.six
  have hfew := few_any o _ _ w2 (HO.out _ hbw)
  rw [hg.out] at hfew
  have HFW := Lib.hid hfew
  clear hfew
  go_wp2_with fail
  refine HFW.out.mono ?_
  rintro e w3 ⟨rfl, hb⟩
  have HB3 := Lib.hid (HB2.out.trans (hb.mono (by have := (HX.out _ HB2.out).2.1; omega)))
  clear HFW hb x0 x1 x2 x3 x4 x5 y0 y1 y2 y3 y4 y5 z0 z1 z2 z3 z4 z5 f0 f1 f2 f3 f4 f5 bx0 bx1 bx2 hbw
  obtain ⟨hbw, _, bx0, bx1, bx2⟩ := HX.out _ HB3.out
  obtain ⟨⟨x0, x1, x2, x3, x4, x5⟩, f0, f1, f2, f3, f4, f5⟩ := bx0.six
  obtain ⟨⟨y0, y1, y2, y3, y4, y5⟩, _⟩ := bx1.six
  obtain ⟨⟨z0, z1, z2, z3, z4, z5⟩, _⟩ := bx2.six
  have hfew := few_any p _ _ w3 (HP.out _ hbw)
  rw [hh.out] at hfew
  have HFW := Lib.hid hfew
  clear hfew
  go_wp2_with fail
  refine HFW.out.mono ?_
  rintro e w4 ⟨rfl, hb⟩
  have HB4 := Lib.hid (HB3.out.trans (hb.mono (by have := (HX.out _ HB3.out).2.1; omega)))
  clear HFW hb x0 x1 x2 x3 x4 x5 y0 y1 y2 y3 y4 y5 z0 z1 z2 z3 z4 z5 f0 f1 f2 f3 f4 f5 bx0 bx1 bx2 hbw
  have hRU := fun W h => lright_any v 0 hf.out (.slice a0 v.list.length c0) (.slice a0' v.fields.length c0') W h
  have hRZ := fun W h => lright_any o 0 hg.out (.slice a1 o.list.length c1) (.slice a1' o.fields.length c1') W h
  have hRQ := fun W h => lright_any p 0 hh.out (.slice a2 p.list.length c2) (.slice a2' p.fields.length c2') W h
  have hOR := ord_rv v o
  generalize v.rv = u at hRU hOR
  generalize o.rv = z at hRZ hOR
  generalize p.rv = q at hRQ
  have HRU := Lib.hid hRU
  have HRZ := Lib.hid hRZ
  have HRQ := Lib.hid hRQ
  have HOR := Lib.hid hOR
  clear hRU hRZ hRQ hOR hf hg hh
  have HBW0 := Lib.hid (HX.out _ HB4.out)
  clear HB1 HB2 HB3
  go_upto_region 5 with fail
  go_cut [26] (fun _ wx => Hid (Below w.heap.size w wx ∧ w.heap.size + 2 < wx.heap.size ∧ In6 wx (w.heap.size + 3) w.heap.size u ∧ Box wx (w.heap.size + 1) 26 #[.int .i64 o.kind, .bool o.yes, .int .i64 o.num, .string o.text, .slice a1 o.list.length c1, .slice a1' o.fields.length c1'] ∧ Box wx (w.heap.size + 2) 26 #[.int .i64 p.kind, .bool p.yes, .int .i64 p.num, .string p.text, .slice a2 p.list.length c2, .slice a2' p.fields.length c2']))
  case first =>
    obtain ⟨hbw, hsz, s0, s1, s2⟩ := HBW0.out
    obtain ⟨⟨x0, x1, x2, x3, x4, x5⟩, f0, f1, f2, f3, f4, f5⟩ := s0.six
    have HBOX := Lib.hid s0
    have HS1 := Lib.hid s1
    have HS2 := Lib.hid s2
    have HRi := Lib.hid (HRU.out _ (HS.out _ hbw))
    have HBW := Lib.hid hbw
    clear s0 s1 s2 hbw
    go_wp2_with fail
    refine HRi.out.mono ?_
    rintro e w5 ⟨lu, fu, rfl, hat, hb5⟩
    obtain ⟨⟨ax, cx, rfl⟩, ⟨ay, cy, rfl⟩, _, _⟩ := hat.is.len
    have HAT := Lib.hid hat
    have HB5 := Lib.hid hb5
    have hz5 := hb5.size
    clear hat hb5 HRi x0 x1 x2 x3 x4 x5 f0 f1 f2 f3 f4 f5
    have HBX5 := Lib.hid ((HB5.out.block _ HBOX.out.lt).trans HBOX.out)
    obtain ⟨⟨x0, x1, x2, x3, x4, x5⟩, f0, f1, f2, f3, f4, f5⟩ := Box.six HBX5.out
    go_wp2_with fail
    go_meet
    refine Lib.hid ⟨st6_below (HBW.out.trans (HB5.out.mono HBW.out.size)) (by omega) _ _ _ _ _ _, ?_, in6_new rfl HBX5.out (by omega) (by omega) u ax cx ay cy HAT.out, box_keep ((HB5.out.block _ HS1.out.lt).trans HS1.out) (by omega) (st6_far _ _ _ _ _ _), box_keep ((HB5.out.block _ HS2.out.lt).trans HS2.out) (by omega) (st6_far _ _ _ _ _ _)⟩
    rw [show ∀ (W : World) (b : Nat) (c0 c1 c2 c3 c4 c5 : Value), ((((((W.setCell ⟨b, 0, none⟩ c0).setCell ⟨b, 1, none⟩ c1).setCell ⟨b, 2, none⟩ c2).setCell ⟨b, 3, none⟩ c3).setCell ⟨b, 4, none⟩ c4).setCell ⟨b, 5, none⟩ c5).heap.size = W.heap.size from fun W b c0 c1 c2 c3 c4 c5 => st6_size c0 c1 c2 c3 c4 c5]
    omega
  case rest =>
    have HCUT1 := hcut
    clear hcut
    go_upto_region 6 with fail
    go_cut [26] (fun _ wx => Hid (Below w.heap.size w wx ∧ w.heap.size + 2 < wx.heap.size ∧ In6 wx (w.heap.size + 3) w.heap.size u ∧ In6 wx (w.heap.size + 3) (w.heap.size + 1) z ∧ Box wx (w.heap.size + 2) 26 #[.int .i64 p.kind, .bool p.yes, .int .i64 p.num, .string p.text, .slice a2 p.list.length c2, .slice a2' p.fields.length c2']))
    case first =>
      obtain ⟨hbw, hsz, s0, s1, s2⟩ := HCUT1.out
      obtain ⟨⟨y0, y1, y2, y3, y4, y5⟩, f0, f1, f2, f3, f4, f5⟩ := s1.six
      have HBOX := Lib.hid s1
      have HS0 := Lib.hid s0
      have HS2 := Lib.hid s2
      have HRi := Lib.hid (HRZ.out _ (HO.out _ hbw))
      have HBW := Lib.hid hbw
      clear s0 s1 s2 hbw
      go_wp2_with fail
      refine HRi.out.mono ?_
      rintro e w5 ⟨lu, fu, rfl, hat, hb5⟩
      obtain ⟨⟨ax, cx, rfl⟩, ⟨ay, cy, rfl⟩, _, _⟩ := hat.is.len
      have HAT := Lib.hid hat
      have HB5 := Lib.hid hb5
      have hz5 := hb5.size
      clear hat hb5 HRi y0 y1 y2 y3 y4 y5 f0 f1 f2 f3 f4 f5
      have HBX5 := Lib.hid ((HB5.out.block _ HBOX.out.lt).trans HBOX.out)
      obtain ⟨⟨y0, y1, y2, y3, y4, y5⟩, f0, f1, f2, f3, f4, f5⟩ := Box.six HBX5.out
      go_wp2_with fail
      go_meet
      refine Lib.hid ⟨st6_below (HBW.out.trans (HB5.out.mono HBW.out.size)) (by omega) _ _ _ _ _ _, ?_, In6.keep (HS0.out.below HB5.out) (by omega) (by omega) (st6_far _ _ _ _ _ _) (Nat.le_of_eq (st6_size _ _ _ _ _ _).symm), in6_new rfl HBX5.out (by omega) (by omega) z ax cx ay cy HAT.out, box_keep ((HB5.out.block _ HS2.out.lt).trans HS2.out) (by omega) (st6_far _ _ _ _ _ _)⟩
      rw [show ∀ (W : World) (b : Nat) (c0 c1 c2 c3 c4 c5 : Value), ((((((W.setCell ⟨b, 0, none⟩ c0).setCell ⟨b, 1, none⟩ c1).setCell ⟨b, 2, none⟩ c2).setCell ⟨b, 3, none⟩ c3).setCell ⟨b, 4, none⟩ c4).setCell ⟨b, 5, none⟩ c5).heap.size = W.heap.size from fun W b c0 c1 c2 c3 c4 c5 => st6_size c0 c1 c2 c3 c4 c5]
      omega
    case rest =>
      have HCUT2 := hcut
      clear hcut
      go_upto_region 7 with fail
      go_cut [26] (fun _ wx => Hid (Below w.heap.size w wx ∧ w.heap.size + 2 < wx.heap.size ∧ In6 wx (w.heap.size + 3) w.heap.size u ∧ In6 wx (w.heap.size + 3) (w.heap.size + 1) z ∧ In6 wx (w.heap.size + 3) (w.heap.size + 2) q))
      case first =>
        obtain ⟨hbw, hsz, s0, s1, s2⟩ := HCUT2.out
        obtain ⟨⟨z0, z1, z2, z3, z4, z5⟩, f0, f1, f2, f3, f4, f5⟩ := s2.six
        have HBOX := Lib.hid s2
        have HS0 := Lib.hid s0
        have HS1 := Lib.hid s1
        have HRi := Lib.hid (HRQ.out _ (HP.out _ hbw))
        have HBW := Lib.hid hbw
        clear s0 s1 s2 hbw
        go_wp2_with fail
        refine HRi.out.mono ?_
        rintro e w5 ⟨lu, fu, rfl, hat, hb5⟩
        obtain ⟨⟨ax, cx, rfl⟩, ⟨ay, cy, rfl⟩, _, _⟩ := hat.is.len
        have HAT := Lib.hid hat
        have HB5 := Lib.hid hb5
        have hz5 := hb5.size
        clear hat hb5 HRi z0 z1 z2 z3 z4 z5 f0 f1 f2 f3 f4 f5
        have HBX5 := Lib.hid ((HB5.out.block _ HBOX.out.lt).trans HBOX.out)
        obtain ⟨⟨z0, z1, z2, z3, z4, z5⟩, f0, f1, f2, f3, f4, f5⟩ := Box.six HBX5.out
        go_wp2_with fail
        go_meet
        refine Lib.hid ⟨st6_below (HBW.out.trans (HB5.out.mono HBW.out.size)) (by omega) _ _ _ _ _ _, ?_, In6.keep (HS0.out.below HB5.out) (by omega) (by omega) (st6_far _ _ _ _ _ _) (Nat.le_of_eq (st6_size _ _ _ _ _ _).symm), In6.keep (HS1.out.below HB5.out) (by omega) (by omega) (st6_far _ _ _ _ _ _) (Nat.le_of_eq (st6_size _ _ _ _ _ _).symm), in6_new rfl HBX5.out (by omega) (by omega) q ax cx ay cy HAT.out⟩
        rw [show ∀ (W : World) (b : Nat) (c0 c1 c2 c3 c4 c5 : Value), ((((((W.setCell ⟨b, 0, none⟩ c0).setCell ⟨b, 1, none⟩ c1).setCell ⟨b, 2, none⟩ c2).setCell ⟨b, 3, none⟩ c3).setCell ⟨b, 4, none⟩ c4).setCell ⟨b, 5, none⟩ c5).heap.size = W.heap.size from fun W b c0 c1 c2 c3 c4 c5 => st6_size c0 c1 c2 c3 c4 c5]
        omega
      case rest =>
        have HCUT3 := hcut
        clear hcut
        clear HBW0 HX HS HO HP HRU HRZ HRQ HCUT1 HCUT2
        have HST : Hid (St w wc u z q) := Lib.hid ⟨HCUT3.out.1, HCUT3.out.2.2⟩
        clear HCUT3
        obtain ⟨X, HXX⟩ : ∃ X, Hid (u.cmp z = X ∧ Three X ∧ z.cmp u = -X) := ⟨_, Lib.hid ⟨rfl, three_all u z, cmp_anti u z⟩⟩
        obtain ⟨Y, HYY⟩ : ∃ Y, Hid (z.cmp q = Y ∧ Three Y) := ⟨_, Lib.hid ⟨rfl, three_all z q⟩⟩
        obtain ⟨Z, HZZ⟩ : ∃ Z, Hid (u.cmp q = Z ∧ Three Z) := ⟨_, Lib.hid ⟨rfl, three_all u q⟩⟩
        obtain ⟨ua, uc, ua', uc', ⟨u0, u1, u2, u3, u4, u5⟩, isu⟩ := (HST.out.2.1).six
        obtain ⟨za, zc, za', zc', ⟨z0, z1, z2, z3, z4, z5⟩, isz⟩ := (HST.out.2.2.1).six
        have hc := cmp_any u z _ _ _ _ _ isu isz
        rw [HXX.out.1] at hc
        have HC := Lib.hid hc
        clear hc
        go_wp2_with fail
        refine HC.out.mono ?_
        rintro e w6 ⟨rfl, hb⟩
        have HST' := Lib.hid (HST.out.below hb)
        clear HC hb HST u0 u1 u2 u3 u4 u5 z0 z1 z2 z3 z4 z5 isu isz
        have HST := HST'
        clear HST'
        have HC := Lib.hid (fun W => sign_any _ HXX.out.2.1 W)
        go_wp2_with fail
        refine (HC.out _).mono ?_
        rintro e wq ⟨rfl, rfl⟩
        clear HC
        obtain ⟨za, zc, za', zc', ⟨z0, z1, z2, z3, z4, z5⟩, isz⟩ := (HST.out.2.2.1).six
        obtain ⟨qa, qc, qa', qc', ⟨q0, q1, q2, q3, q4, q5⟩, isq⟩ := (HST.out.2.2.2).six
        have hc := cmp_any z q _ _ _ _ _ isz isq
        rw [HYY.out.1] at hc
        have HC := Lib.hid hc
        clear hc
        go_wp2_with fail
        refine HC.out.mono ?_
        rintro e w7 ⟨rfl, hb⟩
        have HST' := Lib.hid (HST.out.below hb)
        clear HC hb HST z0 z1 z2 z3 z4 z5 q0 q1 q2 q3 q4 q5 isz isq
        have HST := HST'
        clear HST'
        have HC := Lib.hid (fun W => sign_any _ HYY.out.2 W)
        go_wp2_with fail
        refine (HC.out _).mono ?_
        rintro e wq ⟨rfl, rfl⟩
        clear HC
        obtain ⟨ua, uc, ua', uc', ⟨u0, u1, u2, u3, u4, u5⟩, isu⟩ := (HST.out.2.1).six
        obtain ⟨qa, qc, qa', qc', ⟨q0, q1, q2, q3, q4, q5⟩, isq⟩ := (HST.out.2.2.2).six
        have hc := cmp_any u q _ _ _ _ _ isu isq
        rw [HZZ.out.1] at hc
        have HC := Lib.hid hc
        clear hc
        go_wp2_with fail
        refine HC.out.mono ?_
        rintro e w8 ⟨rfl, hb⟩
        have HST' := Lib.hid (HST.out.below hb)
        clear HC hb HST u0 u1 u2 u3 u4 u5 q0 q1 q2 q3 q4 q5 isu isq
        have HST := HST'
        clear HST'
        have HC := Lib.hid (fun W => sign_any _ HZZ.out.2 W)
        go_wp2_with fail
        refine (HC.out _).mono ?_
        rintro e wq ⟨rfl, rfl⟩
        clear HC
        obtain ⟨ua, uc, ua', uc', ⟨u0, u1, u2, u3, u4, u5⟩, isu⟩ := (HST.out.2.1).six
        obtain ⟨za, zc, za', zc', ⟨z0, z1, z2, z3, z4, z5⟩, isz⟩ := (HST.out.2.2.1).six
        have hc := ord_any u z _ _ _ _ _ isu isz
        rw [HOR.out, HXX.out.1] at hc
        have HC := Lib.hid hc
        clear hc
        go_wp2_with fail
        refine HC.out.mono ?_
        rintro e w9 ⟨rfl, hb⟩
        have HST' := Lib.hid (HST.out.below hb)
        clear HC hb HST u0 u1 u2 u3 u4 u5 z0 z1 z2 z3 z4 z5 isu isz
        have HST := HST'
        clear HST'
        obtain ⟨za, zc, za', zc', ⟨z0, z1, z2, z3, z4, z5⟩, isz⟩ := (HST.out.2.2.1).six
        obtain ⟨ua, uc, ua', uc', ⟨u0, u1, u2, u3, u4, u5⟩, isu⟩ := (HST.out.2.1).six
        have hc := cmp_any z u _ _ _ _ _ isz isu
        rw [HXX.out.2.2] at hc
        have HC := Lib.hid hc
        clear hc
        go_wp2_with fail
        refine HC.out.mono ?_
        rintro e w10 ⟨rfl, hb⟩
        have HST' := Lib.hid (HST.out.below hb)
        clear HC hb HST z0 z1 z2 z3 z4 z5 u0 u1 u2 u3 u4 u5 isz isu
        have HST := HST'
        clear HST'
        have HM : Hid (Three (-X)) := Lib.hid (by rcases HXX.out.2.1 with h | h | h <;> rw [h] <;> simp [Three])
        have HC := Lib.hid (fun W => sign_any _ HM.out W)
        go_wp2_with fail
        refine (HC.out _).mono ?_
        rintro e wq ⟨rfl, rfl⟩
        clear HC
        have hx1 : -1 ≤ X := by rcases HXX.out.2.1 with h | h | h <;> omega
        have hx2 : X ≤ 1 := by rcases HXX.out.2.1 with h | h | h <;> omega
        obtain ⟨ua, uc, ua', uc', ⟨u0, u1, u2, u3, u4, u5⟩, isu⟩ := (HST.out.2.1).six
        have hc := cmp_any u u _ _ _ _ _ isu isu
        rw [cmp_self u] at hc
        have HC := Lib.hid hc
        clear hc
        go_wp2_with fail
        refine HC.out.mono ?_
        rintro e w11 ⟨rfl, hb⟩
        have HST' := Lib.hid (HST.out.below hb)
        clear HC hb HST u0 u1 u2 u3 u4 u5 isu
        have HST := HST'
        clear HST'
        obtain ⟨ua, uc, ua', uc', ⟨u0, u1, u2, u3, u4, u5⟩, isu⟩ := (HST.out.2.1).six
        obtain ⟨za, zc, za', zc', ⟨z0, z1, z2, z3, z4, z5⟩, isz⟩ := (HST.out.2.2.1).six
        have hc := same_any u z _ _ _ _ _ isu isz
        rw [HXX.out.1] at hc
        have HC := Lib.hid hc
        clear hc
        go_wp2_with fail
        refine HC.out.mono ?_
        rintro e w12 ⟨rfl, hb⟩
        have HST' := Lib.hid (HST.out.below hb)
        clear HC hb HST u0 u1 u2 u3 u4 u5 z0 z1 z2 z3 z4 z5 isu isz
        have HST := HST'
        clear HST'
        have HTR := Lib.hid (cmp_tr u z q)
        by_cases hxy : X = Y
        · have hzx : Hid (Z = X) := Lib.hid (by
            obtain ⟨t1, t2, t3, t4⟩ := HTR.out
            rw [HXX.out.1, HYY.out.1, HZZ.out.1] at t1 t3 t4
            rcases HXX.out.2.1 with h | h | h
            · rw [h]; exact t3 h (by omega)
            · rw [t1 h]; exact hxy.symm
            · rw [h]; exact t4 h (by omega))
          have hzx' := hzx.out
          subst hzx'
          subst hxy
          have g1 : (Z == Z) = true := by simp
          have g2 : (Z != Z) = false := by simp
          go_wp2
          go_ret
          exact ⟨rfl, HST.out.1⟩
        · have g1 : (X == Y) = false := by rw [beq_eq_false_iff_ne]; exact hxy
          have g2 : (X != Y) = true := by rw [bne, g1]; rfl
          clear hxy
          go_wp2
          go_ret
          exact ⟨rfl, HST.out.1⟩

theorem walk3 (v o p : V) (lv fv lo fo lp fp : Value) (w : World) (hv : v.Is w lv fv) (ho : o.Is w lo fo) (hp : p.Is w lp fp) :
    Calls Try.prog 5 #[.agg #[.int .i64 v.kind, .bool v.yes, .int .i64 v.num, .string v.text, lv, fv], .agg #[.int .i64 o.kind, .bool o.yes, .int .i64 o.num, .string o.text, lo, fo], .agg #[.int .i64 p.kind, .bool p.yes, .int .i64 p.num, .string p.text, lp, fp]] w fun e w' => e = .returned (.bool true) ∧ Below w.heap.size w w' := by
  cases hf : v.few 0
  · exact walk_f1 v o p _ _ _ _ _ _ w hv ho hp (Lib.hid hf)
  · cases hg : o.few 0
    · exact walk_f2 v o p _ _ _ _ _ _ w hv ho hp (Lib.hid hf) (Lib.hid hg)
    · cases hh : p.few 0
      · exact walk_f3 v o p _ _ _ _ _ _ w hv ho hp (Lib.hid hf) (Lib.hid hg) (Lib.hid hh)
      · exact walk_main v o p _ _ _ _ _ _ w hv ho hp (Lib.hid hf) (Lib.hid hg) (Lib.hid hh)

theorem walk {w : World} (v : V) (lv fv : Value) (hv : v.Is w lv fv) (_nv : v.n64) (o : V) (lo fo : Value) (ho : o.Is w lo fo) (_no : o.n64) (p : V) (lp fp : Value) (hp : p.Is w lp fp) (_np : p.n64) :
    Calls Try.prog 5 #[.agg #[.int .i64 v.kind, .bool v.yes, .int .i64 v.num, .string v.text, lv, fv], .agg #[.int .i64 o.kind, .bool o.yes, .int .i64 o.num, .string o.text, lo, fo], .agg #[.int .i64 p.kind, .bool p.yes, .int .i64 p.num, .string p.text, lp, fp]] w fun e w' => e = .returned (.bool true) ∧ Below w.heap.size w w' := walk3 v o p _ _ _ _ _ _ w hv ho hp

end Go.Proofs.Ytmodegncifopaaa.valOrders
end
