/-
  val's lay and layFields: a value's bytes behind what a slice of the call's own holds; more than may be, where there are more.
-/
import Derived.Test.YtacphlceggbfcaaValLay
import Derived.Test.YtacphlceggbfcaaValRW
import Derived.Outline
namespace Go.Proofs.Ytacphlceggbfcaa
open Go.RowKit

attribute [local irreducible] wpStill

mutual
/-- kinds, numbers and texts as they may be -/
def V.fit : V → Prop
  | .mk k _ n t l f => (0 ≤ k ∧ k ≤ 5) ∧ Is64 n ∧ t.size ≤ 5000 ∧ fitL l ∧ fitF f
def fitL : List V → Prop
  | [] => True
  | v :: l => v.fit ∧ fitL l
def fitF : List (ByteArray × V) → Prop
  | [] => True
  | p :: l => (p.1.size ≤ 5000 ∧ V.fit p.2) ∧ fitF l
end

theorem fitL_iff {l : List V} : fitL l ↔ ∀ v ∈ l, v.fit := by
  induction l with
  | nil => simp [fitL]
  | cons v l ih => simp [fitL, ih]
theorem fitF_iff {l : List Fd} : fitF l ↔ ∀ p ∈ l, p.1.size ≤ 5000 ∧ p.2.fit := by
  induction l with
  | nil => simp [fitF]
  | cons v l ih => simp only [fitF, ih, List.mem_cons, forall_eq_or_imp]

/-- what was laid of T: all of it; or more than may be, as T has -/
def LC (T l : L8) : Prop := l.length ≤ 20000 ∧ (T.length ≤ 4096 → l = T) ∧ (4096 < T.length → 4096 < l.length)

theorem LC.refl {T : L8} (h : T.length ≤ 20000) : LC T T := ⟨h, fun _ => rfl, fun h => h⟩
theorem LC.step {T l x l' : L8} (h : LC T l) (k : LC (l ++ x) l') : LC (T ++ x) l' := by
  obtain ⟨h1, h2, h3⟩ := h
  obtain ⟨k1, k2, k3⟩ := k
  rw [List.length_append] at k2 k3
  refine ⟨k1, fun g => ?_, fun g => ?_⟩
  · rw [List.length_append] at g
    have e := h2 (by omega)
    subst e
    exact k2 (by omega)
  · rw [List.length_append] at g
    by_cases g2 : T.length ≤ 4096
    · have e := h2 g2
      subst e
      exact k3 (by omega)
    · have := h3 (by omega)
      exact k3 (by omega)
theorem LC.long {l x : L8} (h : 4096 < l.length) (h2 : l.length ≤ 20000) : LC (l ++ x) l :=
  ⟨h2, fun g => by rw [List.length_append] at g; omega, fun _ => h⟩

theorem grown_alloc' {w w' : World} {r : Option Nat} (h : w.grownBy w' r) (o : Obj) : w.grownBy (w'.alloc o) r := ⟨h.os, h.tape, h.output, Nat.le_trans h.size (by simp), fun k hk hne => (Below.heap_alloc w' o k (Nat.lt_of_lt_of_le hk h.size)).trans (h.block k hk hne)⟩

def LaidC (B : Nat) (v : Value) (T : L8) (w : World) (e : Ending) (w' : World) : Prop :=
  ∃ v' l', e = .returned v' ∧ Bs 5 B w' v' l' ∧ Up w v w' v' ∧ LC T l'

theorem V.At.low {v : V} {w w' : World} {B : Nat} {lv fv : Value} (h : v.At w (fun b => b < B) lv fv) (hb : Below B w w') : v.At w' (fun b => b < B) lv fv :=
  V.At.move (fun b hS _ => ⟨hS, hb.block b hS⟩) hb.size v.dep (Nat.le_refl _) h

theorem box_kept {E B : Nat} {w W : World} {o : Obj} {v V' : Value} {l : L8} (hown : Bs E B w v l) (hup : Up (w.alloc o) v W V') (i : Nat) : W.cell? ⟨w.heap.size, i, none⟩ = (w.alloc o).cell? ⟨w.heap.size, i, none⟩ :=
  World.cell?_of_block (a := ⟨w.heap.size, i, none⟩) (hup.1.block w.heap.size (by simp) (fun e => by have := (World.ownsRow.lt hown _ e.symm).2; omega))

def LayOK (N : Nat) : Prop := ∀ (v : V) (lv fv : Value) (B : Nat) (v0 : Value) (l0 : L8) (w : World), v.dep ≤ N → v.fit → v.At w (fun b => b < B) lv fv → B ≤ w.heap.size → Bs 5 B w v0 l0 → l0.length ≤ 20000 →
  Calls Try.prog 52 #[.agg #[.int .i64 v.kind, .bool v.yes, .int .i64 v.num, .string v.text, lv, fv], v0] w (LaidC B v0 (l0 ++ v.lay) w)

theorem u8_kind {k : Int} (h0 : 0 ≤ k) (h5 : k ≤ 5) : UInt8.ofNat k.toNat = UInt8.ofNat (k % 256).toNat := by
  rw [show k % 256 = k by omega]

theorem Bs.lenEq {E B : Nat} {w : World} {v : Value} {l : L8} (h : Bs E B w v l) : ∃ a c, v = .slice a l.length c := by
  rcases h.2 with ⟨rfl, h0⟩ | ⟨g, cap, cur, rfl, _⟩
  · exact ⟨none, 0, by rw [h0]⟩
  · exact ⟨_, _, rfl⟩

/-- one byte appended; the heap's size by a letter -/
theorem wpList_app1H {P : Program} (w : World) (H : Nat) (hH : w.heap.size = H) {ops : Array Oper} {rest : List Oper} {o : Oper} {a : Act} {Q : Exit → Act → World → Prop} (hgd : o.guard = none) (s x : Operand) (t : TypeId)
    (ho : o.op = .call { callee := .builtin .append, args := #[s, x], argTypes := #[t, t] })
    (E B : Nat) (ht : P.underlying t = some (.slice E)) (hi : (P.info? E).map (fun i => (i.zero, i.size, i.bytes)) = some (some (.int .u8 0), 1, 1))
    (v : Value) (l : List UInt8) (hs : a.eval s = v) (hown : Bs E B w v l) (b : Int) (c : Nat)
    (hx : a.eval x = .slice (some ⟨H, 0, none⟩) 1 c) (h0 : 0 ≤ b) (h1 : b < 256)
    (h63 : l.length < 140737488355328) (hbase : B ≤ w.heap.size)
    (h : ∀ v' w', Bs E B w' v' (l ++ [UInt8.ofNat b.toNat]) → Up w v w' v' → wpList P ops Q rest (a.put o.dst v') w') :
    wpList P ops Q (o :: rest) a (w.alloc (.cells #[.int .u8 b] E)) := by
  subst hH
  exact wpList_app1 w hgd s x t ho E B ht hi v l hs hown b c hx h0 h1 h63 hbase h

set_option maxHeartbeats 4000000 in
set_option maxRecDepth 100000 in
/-- the values that are no list and no map -/
theorem lay_plain (v : V) (lv fv : Value) (B : Nat) (v0 : Value) (l0 : L8) (w : World) (hfit : v.fit) (hat : v.At w (fun b => b < B) lv fv) (hB : B ≤ w.heap.size) (hown : Bs 5 B w v0 l0) (hl : l0.length ≤ 4096)
    (h4 : v.kind ≠ 4) (h5 : v.kind ≠ 5) :
    Calls Try.prog 52 #[.agg #[.int .i64 v.kind, .bool v.yes, .int .i64 v.num, .string v.text, lv, fv], v0] w (LaidC B v0 (l0 ++ v.lay) w) := by
  obtain ⟨⟨a, c, rfl⟩, ⟨a', c', rfl⟩, _, _⟩ := hat.is.len
  obtain ⟨a0, c0, rfl⟩ := hown.lenEq
  obtain ⟨k, y, n, t, l, f⟩ := v
  obtain ⟨⟨hk0, hk5⟩, hn, ht, _, _⟩ := hfit
  simp only [V.kind, V.yes, V.num, V.text, V.list, V.fields] at *
  have hlt : ¬ (4096 : Int) < (l0.length : Int) := by omega
  have hownB : Bs 5 B (w.alloc (.cells #[.int .i64 k, .bool y, .int .i64 n, .string t, .slice a l.length c, .slice a' f.length c'] 26)) (.slice a0 l0.length c0) l0 := World.ownsRow.alloc hown _
  have hBB : B ≤ (w.alloc (.cells #[.int .i64 k, .bool y, .int .i64 n, .string t, .slice a l.length c, .slice a' f.length c'] 26)).heap.size := by simp; omega
  have hlay : Hid ((V.mk k y n t l f).lay = UInt8.ofNat k.toNat :: (if k = 1 then octF y else if k = 2 then layI n else if k = 3 then octT t else if k = 4 then octN l.length ++ layL l else if k = 5 then octN f.length ++ layF f else [])) := Lib.hid rfl
  have HN := Lib.hid hn
  have hkk : k = 0 ∨ k = 1 ∨ k = 2 ∨ k = 3 := by omega
  clear hn hat hk0 hk5 h4 h5
  rcases hkk with rfl | rfl | rfl | rfl
  · go_enter Try.func52, Try.ntmps52
    go_wp2_with (at_builtin; refine wpList_app1H _ (w.heap.size + 1) (by simp) rfl (.tmp 11) (.tmp 15) 44 rfl 5 B Try.underlying44 infoB _ l0 rfl hownB _ _ rfl (by decide) (by decide) (by omega) hBB ?_; intro v1 w1 hown1 hup1; have hc0 := (box_kept hown hup1 0); have hc1 := (box_kept hown hup1 1); have hc2 := (box_kept hown hup1 2); have hc3 := (box_kept hown hup1 3); simp at hc0 hc1 hc2 hc3)
    go_ret
    exact ⟨v1, _, rfl, hown1, hup1.alloc, by rw [hlay.out]; exact LC.refl (by simp; omega)⟩
  · go_enter Try.func52, Try.ntmps52
    go_wp2_with (at_builtin; refine wpList_app1H _ (w.heap.size + 1) (by simp) rfl (.tmp 11) (.tmp 15) 44 rfl 5 B Try.underlying44 infoB _ l0 rfl hownB _ _ rfl (by decide) (by decide) (by omega) hBB ?_; intro v1 w1 hown1 hup1; have hc0 := (box_kept hown hup1 0); have hc1 := (box_kept hown hup1 1); have hc2 := (box_kept hown hup1 2); have hc3 := (box_kept hown hup1 3); simp at hc0 hc1 hc2 hc3)
    have hz1 := hup1.1.size
    go_wp2_with fail
    refine (flag_any B v1 _ y w1 (by simp; omega) (by omega) hown1).mono ?_
    rintro e w2 ⟨v2, rfl, hown2, hup2⟩
    go_wp2
    go_ret
    exact ⟨v2, _, rfl, hown2, (hup1.trans hup2).alloc, by rw [hlay.out]; simpa using LC.refl (T := l0 ++ 1 :: octF y) (by simp [octF]; omega)⟩
  · go_enter Try.func52, Try.ntmps52
    go_wp2_with (at_builtin; refine wpList_app1H _ (w.heap.size + 1) (by simp) rfl (.tmp 11) (.tmp 15) 44 rfl 5 B Try.underlying44 infoB _ l0 rfl hownB _ _ rfl (by decide) (by decide) (by omega) hBB ?_; intro v1 w1 hown1 hup1; have hc0 := (box_kept hown hup1 0); have hc1 := (box_kept hown hup1 1); have hc2 := (box_kept hown hup1 2); have hc3 := (box_kept hown hup1 3); simp at hc0 hc1 hc2 hc3)
    have hz1 := hup1.1.size
    go_wp2_with fail
    refine (layInt_any B v1 _ n HN.out w1 (by simp; omega) (by omega) hown1).mono ?_
    rintro e w2 ⟨v2, rfl, hown2, hup2⟩
    have n1 := octN_lt (foldI n / 4294967296) (by have := fold_lt HN.out; omega)
    have n2 := octN_lt (foldI n % 4294967296) (by omega)
    go_wp2
    go_ret
    exact ⟨v2, _, rfl, hown2, (hup1.trans hup2).alloc, by rw [hlay.out]; simpa using LC.refl (T := l0 ++ 2 :: layI n) (by simp [layI]; omega)⟩
  · go_enter Try.func52, Try.ntmps52
    go_wp2_with (at_builtin; refine wpList_app1H _ (w.heap.size + 1) (by simp) rfl (.tmp 11) (.tmp 15) 44 rfl 5 B Try.underlying44 infoB _ l0 rfl hownB _ _ rfl (by decide) (by decide) (by omega) hBB ?_; intro v1 w1 hown1 hup1; have hc0 := (box_kept hown hup1 0); have hc1 := (box_kept hown hup1 1); have hc2 := (box_kept hown hup1 2); have hc3 := (box_kept hown hup1 3); simp at hc0 hc1 hc2 hc3)
    have hz1 := hup1.1.size
    go_wp2_with fail
    refine (text_any B v1 _ t w1 (by simp; omega) (by omega) hown1).mono ?_
    rintro e w2 ⟨v2, rfl, hown2, hup2⟩
    have n1 := octN_lt t.size (by omega)
    have ht3 : t.data.toList.length = t.size := by rw [Array.length_toList]; rfl
    go_wp2
    go_ret
    exact ⟨v2, _, rfl, hown2, (hup1.trans hup2).alloc, by rw [hlay.out]; simpa using LC.refl (T := l0 ++ 3 :: octT t) (by rw [List.length_append, List.length_cons, octT, List.length_append, ht3]; omega)⟩

theorem layL_take (l : List V) (j : Nat) (h : j < l.length) : layL (l.take (j + 1)) = layL (l.take j) ++ (l[j]).lay := by
  rw [List.take_succ_eq_append_getElem h, layL_append]
  simp [layL]

theorem layF_take (l : List Fd) (j : Nat) (h : j < l.length) : layF (l.take (j + 1)) = layF (l.take j) ++ (octT (l[j]).1 ++ (l[j]).2.lay) := by
  rw [List.take_succ_eq_append_getElem h, layF_append]
  simp [layF]

set_option maxHeartbeats 4000000 in
set_option maxRecDepth 100000 in
/-- a list -/
theorem lay_list (N : Nat) (ih : LayOK N) (v : V) (hd : v.dep ≤ N + 1) (lv fv : Value) (B : Nat) (v0 : Value) (l0 : L8) (w : World) (hfit : v.fit) (hat : v.At w (fun b => b < B) lv fv) (hB : B ≤ w.heap.size) (hown : Bs 5 B w v0 l0) (hl : l0.length ≤ 4096)
    (h4 : v.kind = 4) :
    Calls Try.prog 52 #[.agg #[.int .i64 v.kind, .bool v.yes, .int .i64 v.num, .string v.text, lv, fv], v0] w (LaidC B v0 (l0 ++ v.lay) w) := by
  obtain ⟨⟨a, c, rfl⟩, ⟨a', c', rfl⟩, hLb, _⟩ := hat.is.len
  obtain ⟨a0, c0, rfl⟩ := hown.lenEq
  have hdl : ∀ x ∈ v.list, x.dep ≤ N := fun x hx => by have := dep_list (v := v) hx; omega
  obtain ⟨k, y, n, t, l, f⟩ := v
  obtain ⟨_, _, _, hfl, _⟩ := hfit
  simp only [V.kind, V.yes, V.num, V.text, V.list, V.fields] at *
  subst h4
  have hlt : ¬ (4096 : Int) < (l0.length : Int) := by omega
  have hownB : Bs 5 B (w.alloc (.cells #[.int .i64 4, .bool y, .int .i64 n, .string t, .slice a l.length c, .slice a' f.length c'] 26)) (.slice a0 l0.length c0) l0 := World.ownsRow.alloc hown _
  have hBB : B ≤ (w.alloc (.cells #[.int .i64 4, .bool y, .int .i64 n, .string t, .slice a l.length c, .slice a' f.length c'] 26)).heap.size := by simp; omega
  have hlay : Hid ((V.mk 4 y n t l f).lay = 4 :: (octN l.length ++ layL l)) := Lib.hid rfl
  have HFL := Lib.hid (fitL_iff.1 hfl)
  have HDL := Lib.hid hdl
  have hbw : Below B w (w.alloc (.cells #[.int .i64 4, .bool y, .int .i64 n, .string t, .slice a l.length c, .slice a' f.length c'] 26)) := (Below.refl _ _).alloc hB _
  have HAT := Lib.hid hat
  clear hfl hdl hd hat
  go_enter Try.func52, Try.ntmps52
  go_wp2_with (at_builtin; refine wpList_app1H _ (w.heap.size + 1) (by simp) rfl (.tmp 11) (.tmp 15) 44 rfl 5 B Try.underlying44 infoB _ l0 rfl hownB _ _ rfl (by decide) (by decide) (by omega) hBB ?_; intro v1 w1 hown1 hup1; have hc0 := (box_kept hown hup1 0); have hc4 := (box_kept hown hup1 4); have hc5 := (box_kept hown hup1 5); simp at hc0 hc4 hc5)
  have hz1 := hup1.1.size
  have hb1 := hbw.trans (hup1.below hownB hBB)
  go_wp2_with fail
  refine (num_nat B v1 _ l.length hLb w1 (by simp; omega) (by omega) hown1).mono ?_
  rintro e w2 ⟨v2, rfl, hown2, hup2⟩
  have n1 := octN_lt l.length (by omega)
  have hup12 := hup1.trans hup2
  have hb2 := hb1.trans (hup2.below hown1 (by omega))
  have hc4' := box_kept hown hup12 4
  simp at hc4'
  clear hc0 hc4 hc5 hb1 hup1 hup2 hown1
  go_wp2
  go_loopw [1, 47] (fun x i wr => ∃ (j : Nat) (l' : L8), j ≤ l.length ∧ i = .int .i64 j ∧ Bs 5 B wr x l' ∧ LC (l0 ++ 4 :: (octN l.length ++ layL (l.take j))) l' ∧ Up (w.alloc (.cells #[.int .i64 4, .bool y, .int .i64 n, .string t, .slice a l.length c, .slice a' f.length c'] 26)) (.slice a0 l0.length c0) wr x) (fun _ i _ => l.length - (intOf i).toNat)
  case atStart => exact ⟨0, _, Nat.zero_le _, rfl, hown2, by simpa [layL] using LC.refl (T := l0 ++ 4 :: octN l.length) (by simp; omega), hup12⟩
  case round =>
    clear hc4' hown2 hup12 hb2
    obtain ⟨j, l', hj, rfl, hownj, hlc, hupj⟩ := hrel
    have hbj := hbw.trans (hupj.below hownB hBB)
    have hzj := Nat.le_trans hB hbj.size
    have HLC := Lib.hid hlc
    have hl' := hlc.1
    clear hlc
    by_cases hjl : j < l.length
    · have hatj := HAT.out.low hbj
      obtain ⟨⟨a2, c2, e1, _, _, hcl⟩, _⟩ := V.at_iff.1 hatj
      injection e1 with e1 e3 e2
      clear e3
      subst e1 e2
      obtain ⟨b, off, rfl, hbB, hbl, hLC⟩ : ∃ b off, a = some ⟨b, off, none⟩ ∧ b < B ∧ b < wr.heap.size ∧ LCells wr (fun b => b < B) b off l := by
        rcases hcl with h | h
        · have h : l = [] := h
          rw [h] at hjl; simp at hjl
        · exact h
      obtain ⟨lv', fv', hin, hel⟩ := hLC.get hjl
      have hxf := HFL.out _ (List.getElem_mem hjl)
      have hxd := HDL.out _ (List.getElem_mem hjl)
      obtain ⟨q0, q1, q2, q3, q4, q5⟩ := hin.six
      have htk := layL_take l j hjl
      generalize l[j] = x at q0 q1 q2 q3 q4 q5 hel hxf hxd htk
      obtain ⟨⟨ax, cx, rfl⟩, ⟨ax', cx', rfl⟩, _, _⟩ := hel.is.len
      have hjl' : (j : Int) < (l.length : Int) := by omega
      have HT := Lib.hid htk
      have hown5 : Bs 5 B (wr.alloc (.cells #[.int .i64 x.kind, .bool x.yes, .int .i64 x.num, .string x.text, .slice ax x.list.length cx, .slice ax' x.fields.length cx'] 26)) u1 l' := World.ownsRow.alloc hownj _
      have hcall := ih x _ _ B u1 l' (wr.alloc (.cells #[.int .i64 x.kind, .bool x.yes, .int .i64 x.num, .string x.text, .slice ax x.list.length cx, .slice ax' x.fields.length cx'] 26)) hxd hxf (hel.low ((Below.refl B wr).alloc hzj _)) (by simp; omega) hown5 hl'
      clear htk hin hel hLC hatj hcl hownj
      go_wp2_with fail
      refine hcall.mono ?_
      rintro e w3 ⟨v3, l3, rfl, hown3, hup3, hlc3⟩
      clear hcall
      go_wp2
      go_roundw
      case rel =>
        refine ⟨j + 1, l3, by omega, by go_num, hown3, ?_, hupj.trans hup3.alloc⟩
        have := HLC.out.step hlc3
        rw [HT.out]
        simpa using this
      case measure => simp [intOf]; omega
    · have hge : ¬ (j : Int) < (l.length : Int) := by omega
      have e : l.take j = l := List.take_of_length_le (by omega)
      rw [e] at HLC
      clear hjl e
      go_wp2
      go_ret
      exact ⟨u1, l', rfl, hownj, hupj.alloc, by rw [hlay.out]; exact HLC.out⟩

set_option maxHeartbeats 4000000 in
set_option maxRecDepth 100000 in
/-- the fields of a map -/
theorem layF_any (N : Nat) (ih : LayOK N) (f : List Fd) (hdep : ∀ p ∈ f, p.2.dep ≤ N) (fv : Value) (B : Nat) (v0 : Value) (l0 : L8) (w : World) (hfit : fitF f) (hat : FAt w (fun b => b < B) f fv) (hB : B ≤ w.heap.size) (hown : Bs 5 B w v0 l0) (hl : l0.length ≤ 4100) :
    Calls Try.prog 80 #[v0, fv] w (LaidC B v0 (l0 ++ (octN f.length ++ layF f)) w) := by
  obtain ⟨a, c, rfl, hfc, hcm, hcells⟩ := hat
  have hFb : f.length ≤ 9223372036854775807 := by unfold maxLen at hcm; omega
  have HFL := Lib.hid (fitF_iff.1 hfit)
  have HDL := Lib.hid hdep
  have HC := Lib.hid hcells
  clear hfit hdep hcells hfc hcm
  go_enter Try.func80, Try.ntmps80
  go_wp2_with fail
  refine (num_nat B v0 _ f.length hFb w (by omega) hB hown).mono ?_
  rintro e w2 ⟨v2, rfl, hown2, hup2⟩
  have n1 := octN_lt f.length (by omega)
  go_wp2
  go_loopw [0, 13] (fun x i wr => ∃ (j : Nat) (l' : L8), j ≤ f.length ∧ i = .int .i64 j ∧ Bs 5 B wr x l' ∧ LC (l0 ++ (octN f.length ++ layF (f.take j))) l' ∧ Up w v0 wr x) (fun _ i _ => f.length - (intOf i).toNat)
  case atStart => exact ⟨0, _, Nat.zero_le _, rfl, hown2, by simpa [layF] using LC.refl (T := l0 ++ octN f.length) (by simp; omega), hup2⟩
  case round =>
    clear hown2 hup2
    obtain ⟨j, l', hj, rfl, hownj, hlc, hupj⟩ := hrel
    have hbj := hupj.below hown hB
    have hzj := Nat.le_trans hB hbj.size
    have HLC := Lib.hid hlc
    have hl' := hlc.1
    clear hlc
    by_cases hjl : j < f.length
    · obtain ⟨b, off, rfl, hbB, hbl, hFC⟩ : ∃ b off, a = some ⟨b, off, none⟩ ∧ b < B ∧ b < wr.heap.size ∧ FCells wr (fun b => b < B) b off f := by
        rcases HC.out with h | ⟨b, off, e1, e2, e3, e4⟩
        · rw [h] at hjl; simp at hjl
        · refine ⟨b, off, e1, e2, by omega, FCells.mk fun i hi => ?_⟩
          obtain ⟨lv', fv', h1, h2⟩ := e4.get hi
          exact ⟨lv', fv', h1.keep (hbj.block b e2), h2.low hbj⟩
      obtain ⟨lv', fv', hin, hel⟩ := hFC.get hjl
      have hxf := HFL.out _ (List.getElem_mem hjl)
      have hxd := HDL.out _ (List.getElem_mem hjl)
      obtain ⟨q0, q1, q2, q3, q4, q5, q6⟩ := hin.seven
      have htk := layF_take f j hjl
      generalize (f[j]).1 = nm at q0 hxf htk
      generalize (f[j]).2 = x at q1 q2 q3 q4 q5 q6 hel hxf hxd htk
      obtain ⟨⟨ax, cx, rfl⟩, ⟨ax', cx', rfl⟩, _, _⟩ := hel.is.len
      obtain ⟨a1, c1, rfl⟩ := hownj.lenEq
      have hjl' : (j : Int) < (f.length : Int) := by omega
      have HT := Lib.hid htk
      by_cases hlong : 4096 < l'.length
      · have hlong' : (4096 : Int) < (l'.length : Int) := by omega
        have hsplit : layF f = layF (f.take j) ++ layF (f.drop j) := by rw [← layF_append, List.take_append_drop]
        have HS := Lib.hid hsplit
        clear htk hin hel hFC hsplit hxf hxd
        go_wp2
        go_ret
        refine ⟨_, l', rfl, hownj.alloc _, ⟨(grown_alloc' hupj.1 _), ?_⟩, ?_⟩
        · exact hupj.2
        · have h1 := LC.step (x := layF (f.drop j)) HLC.out (LC.long hlong hl')
          rw [HS.out]
          simpa using h1
      · have hlong' : ¬ (4096 : Int) < (l'.length : Int) := by omega
        have hl4 : l'.length ≤ 4096 := by omega
        have hown5 : Bs 5 B (wr.alloc (.cells #[.string nm, .int .i64 x.kind, .bool x.yes, .int .i64 x.num, .string x.text, .slice ax x.list.length cx, .slice ax' x.fields.length cx'] 68)).drew (.slice a1 l'.length c1) l' := World.ownsRow.alloc hownj _
        have hb5 : Below B wr (wr.alloc (.cells #[.string nm, .int .i64 x.kind, .bool x.yes, .int .i64 x.num, .string x.text, .slice ax x.list.length cx, .slice ax' x.fields.length cx'] 68)).drew := ((Below.refl B wr).alloc hzj _).drew
        have hz5 := hb5.size
        have hup5 : Up wr (.slice a1 l'.length c1) (wr.alloc (.cells #[.string nm, .int .i64 x.kind, .bool x.yes, .int .i64 x.num, .string x.text, .slice ax x.list.length cx, .slice ax' x.fields.length cx'] 68)).drew (.slice a1 l'.length c1) := ⟨⟨rfl, rfl, rfl, by simp, fun k hk _ => Below.heap_alloc wr _ k hk⟩, .inl rfl⟩
        have htx := text_any B _ l' nm _ (by omega) (Nat.le_trans hzj hz5) hown5
        have n2 := octN_lt nm.size (by omega)
        have ht3 : nm.data.toList.length = nm.size := by rw [Array.length_toList]; rfl
        have hlo : (l' ++ octT nm).length ≤ 20000 := by rw [List.length_append, octT, List.length_append, ht3]; omega
        have hel5 := hel.low hb5
        have hkeep : ∀ (w' : World) (V' : Value), Up (wr.alloc (.cells #[.string nm, .int .i64 x.kind, .bool x.yes, .int .i64 x.num, .string x.text, .slice ax x.list.length cx, .slice ax' x.fields.length cx'] 68)).drew (.slice a1 l'.length c1) w' V' → w'.cell? ⟨wr.heap.size, 0, none⟩ = some (.string nm) ∧ w'.cell? ⟨wr.heap.size, 1, none⟩ = some (.int .i64 x.kind) ∧ w'.cell? ⟨wr.heap.size, 2, none⟩ = some (.bool x.yes) ∧ w'.cell? ⟨wr.heap.size, 3, none⟩ = some (.int .i64 x.num) ∧ w'.cell? ⟨wr.heap.size, 4, none⟩ = some (.string x.text) ∧ w'.cell? ⟨wr.heap.size, 5, none⟩ = some (.slice ax x.list.length cx) ∧ w'.cell? ⟨wr.heap.size, 6, none⟩ = some (.slice ax' x.fields.length cx') := fun w' V' hup => by
          have hkk := fun i => World.cell?_of_block (a := ⟨wr.heap.size, i, none⟩) (hup.1.block wr.heap.size (by simp) (fun e => by have := (World.ownsRow.lt hownj _ e.symm).2; omega))
          exact ⟨by rw [hkk]; simp, by rw [hkk]; simp, by rw [hkk]; simp, by rw [hkk]; simp, by rw [hkk]; simp, by rw [hkk]; simp, by rw [hkk]; simp⟩
        clear htk hin hel hFC n2 ht3
        go_wp2_with fail
        go_region_held3 (fun w' => w'.cell? ⟨wr.heap.size, 0, none⟩ = some (.string nm) ∧ w'.cell? ⟨wr.heap.size, 1, none⟩ = some (.int .i64 x.kind) ∧ w'.cell? ⟨wr.heap.size, 2, none⟩ = some (.bool x.yes) ∧ w'.cell? ⟨wr.heap.size, 3, none⟩ = some (.int .i64 x.num) ∧ w'.cell? ⟨wr.heap.size, 4, none⟩ = some (.string x.text) ∧ w'.cell? ⟨wr.heap.size, 5, none⟩ = some (.slice ax x.list.length cx) ∧ w'.cell? ⟨wr.heap.size, 6, none⟩ = some (.slice ax' x.fields.length cx')) (first | go_keep | exact hS3 | exact hS4)
          (first
            | (go_at_call 67
               refine htx.mono ?_
               rintro e w3 ⟨v3, rfl, hown3, hup3⟩
               have hS3 := hkeep w3 v3 hup3
               have hb3 := hup3.below hown5 (Nat.le_trans hzj hz5))
            | (go_at_call 52
               refine (ih x _ _ B v3 _ w3 hxd hxf.2 (hel5.low hb3) (Nat.le_trans (Nat.le_trans hzj hz5) hb3.size) hown3 hlo).mono ?_
               rintro e w4 ⟨v4, l4, rfl, hown4, hup4, hlc4⟩
               have hS4 := hkeep w4 v4 (hup3.trans hup4)))
        go_wp2
        go_roundw
        case rel =>
          refine ⟨j + 1, l4, by omega, by go_num, hown4, ?_, hupj.trans (hup5.trans (hup3.trans hup4))⟩
          have h1 := HLC.out.step (LC.refl hlo)
          have h2 := h1.step hlc4
          rw [HT.out]
          simpa using h2
        case measure => simp [intOf]; omega
    · have hge : ¬ (j : Int) < (f.length : Int) := by omega
      have e : f.take j = f := List.take_of_length_le (by omega)
      rw [e] at HLC
      clear hjl e
      go_wp2
      go_ret
      exact ⟨u0, l', rfl, hownj, hupj, HLC.out⟩

end Go.Proofs.Ytacphlceggbfcaa
