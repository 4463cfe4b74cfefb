/-
  ord.Val's bytes of a value, plainly: their order is that of the values.
  ord.Val: a value's bytes behind what a slice of the call's own holds.
  ord.Val of a list, of a map; of any value.
  What the walk of mailbaglaw03.OrdVals asks: how long bytes are, what begins with what, the row that is laid.
  The walk of mailbaglaw03.OrdVals.
  A value as an argument: its six cells.
  Bytes that the call owns, in a block whose marks are whatever, so nothing within is frozen: what '[]byte(s)' makes besides; and what an append does to them.
  ord.Text: behind bytes in a block that may have marks.
  ord.Int: behind bytes in a block that may have marks.
  ord.Val: behind bytes in a block that may have marks.
  schema: indexes in memory, and as arguments.
  schema: the keys under which all is kept: contracts of Key, Docs, Doc, Entries.
  schema: the key of an entry: Entry's contract.
  mailbaglaw13: Few; its collections and indexes as arguments; what begins with what.
-/
import Derived.Test.YtacphlceggbfcaaSKB1
import Derived.Test.YtacphlceggbfcaaOKey
import Derived.Test.YtacphlceggbfcaaOInt
import Derived.Outline
import Derived.Deep.RegionHeld3
import Derived.Test.YtacphlceggbfcaaRowB
import Derived.Test.YtacphlceggbfcaaVFew
import Derived.Deep.DeepCutAuto
import Derived.Laws.OwnMore
import Derived.Test.YtacphlceggbfcaaValMem
import Derived.Test.YtacphlceggbfcaaOwn
import Derived.Test.YtacphlceggbfcaaOPure
import Derived.Lib.FrozenHead
import Derived.Laws.IdiomStrings
import Derived.Lib.Hide
import Derived.Test.YtacphlceggbfcaaOText
import Derived.Test.YtacphlceggbfcaaRound
import Derived.Test.YtacphlceggbfcaaIsRow
import Derived.BigQuiet
import Derived.Deep.QuietTactic
import Derived.Deep.Slices
import Derived.Deep.Strs
import Derived.IntWalk
import Derived.Lib.SmallJoins
import Derived.WalkKit
import Derived.Deep.RegionWith
import Derived.Test.YtacphlceggbfcaaOKeyA
import Derived.Deep.RegionHeld
section
section
namespace Go.Proofs.Ytacphlceggbfcaa
open Go.RowKit

mutual
/-- the bytes of a value in a key -/
def V.ob : V → L8
  | .mk k y n t l f => UInt8.ofNat (k + 2).toNat :: (if k = 1 then [if y then 3 else 2] else if k = 2 then oI n else if k = 3 then oT t.data.toList else if k = 4 then obL l ++ [1] else if k = 5 then obF f ++ [1] else [])
def obL : List V → L8
  | [] => []
  | v :: l => v.ob ++ obL l
def obF : List (ByteArray × V) → L8
  | [] => []
  | p :: l => (2 :: (oT p.1.data.toList ++ V.ob p.2)) ++ obF l
end

theorem obL_append (a b : List V) : obL (a ++ b) = obL a ++ obL b := by
  induction a with
  | nil => rfl
  | cons v a ih => rw [List.cons_append, obL, obL, ih, List.append_assoc]
theorem obF_append (a b : List Fd) : obF (a ++ b) = obF a ++ obF b := by
  induction a with
  | nil => rfl
  | cons v a ih => rw [List.cons_append, obF, obF, ih, List.append_assoc]
theorem obL_take (l : List V) (j : Nat) (h : j < l.length) : obL (l.take (j + 1)) = obL (l.take j) ++ (l[j]).ob := by
  rw [List.take_succ_eq_append_getElem h, obL_append]
  simp [obL]
theorem obF_take (l : List Fd) (j : Nat) (h : j < l.length) : obF (l.take (j + 1)) = obF (l.take j) ++ (2 :: (oT (l[j]).1.data.toList ++ (l[j]).2.ob)) := by
  rw [List.take_succ_eq_append_getElem h, obF_append]
  simp [obF]
theorem obL_le (l : List V) (j : Nat) : (obL (l.take j)).length ≤ (obL l).length := by
  have h : obL l = obL (l.take j) ++ obL (l.drop j) := by rw [← obL_append, List.take_append_drop]
  rw [h, List.length_append]; omega
theorem obF_le (l : List Fd) (j : Nat) : (obF (l.take j)).length ≤ (obF l).length := by
  have h : obF l = obF (l.take j) ++ obF (l.drop j) := by rw [← obF_append, List.take_append_drop]
  rw [h, List.length_append]; omega

/-- a comparison of bytes that goes on behind what is alike -/
theorem cmpL_cons (a b : UInt8) (x y : L8) : cmpL (a :: x) (b :: y) = if a.toNat < b.toNat then -1 else if b.toNat < a.toNat then 1 else cmpL x y := by
  unfold cmpL
  simp only [lt_cons]
  by_cases h1 : a.toNat < b.toNat
  · simp [h1]
  · by_cases h2 : b.toNat < a.toNat
    · have h3 : ¬ a.toNat = b.toNat := by omega
      simp [h1, h2, h3]
    · have h3 : a.toNat = b.toNat := by omega
      simp [h3]

/-- then: the first unlike decides -/
def thn (c d : Int) : Int := if c ≠ 0 then c else d

theorem kind_byte {k : Int} (h0 : 0 ≤ k) (h5 : k ≤ 5) : (UInt8.ofNat (k + 2).toNat).toNat = (k + 2).toNat := by
  simp; omega

theorem pl_kind {v : V} (h : v.pl) : 0 ≤ v.kind ∧ v.kind ≤ 5 := by
  cases h <;> simp [V.null, V.ofBool, V.ofInt, V.ofText, V.ofList, V.ofMap, V.kind]

theorem ob_cons (v : V) : ∃ x, v.ob = UInt8.ofNat (v.kind + 2).toNat :: x := by
  obtain ⟨k, y, n, t, l, f⟩ := v
  exact ⟨_, by rw [V.ob]; rfl⟩

theorem obL_cmp {N : Nat} (ih : ∀ a b r s, a.dep ≤ N → a.pl → b.pl → a.n64 → b.n64 → cmpL (V.ob a ++ r) (V.ob b ++ s) = thn (a.cmp b) (cmpL r s)) :
    ∀ (l m : List V) (r s : L8), (∀ x ∈ l, x.dep ≤ N ∧ x.pl ∧ x.n64) → (∀ x ∈ m, x.pl ∧ x.n64) → cmpL (obL l ++ 1 :: r) (obL m ++ 1 :: s) = thn (lexL V.cmp l m) (cmpL r s)
  | [], [], r, s, _, _ => by rw [lexL, obL]; simp [thn, cmpL_cons]
  | [], y :: ys, r, s, _, hm => by
    obtain ⟨x, hx⟩ := ob_cons y
    have hk := pl_kind (hm y (List.mem_cons_self ..)).1
    rw [lexL, obL, obL, hx, List.cons_append, List.cons_append, List.nil_append, cmpL_cons, kind_byte hk.1 hk.2, if_pos (by simp; omega)]
    simp [thn]
  | x :: xs, [], r, s, hl, _ => by
    obtain ⟨z, hz⟩ := ob_cons x
    have hk := pl_kind (hl x (List.mem_cons_self ..)).2.1
    rw [lexL, obL, obL, hz, List.cons_append, List.cons_append, List.nil_append, cmpL_cons, kind_byte hk.1 hk.2, if_neg (by simp; omega), if_pos (by simp; omega)]
    simp [thn]
  | x :: xs, y :: ys, r, s, hl, hm => by
    have h1 := hl x (List.mem_cons_self ..)
    have h2 := hm y (List.mem_cons_self ..)
    rw [lexL, obL, obL, List.append_assoc, List.append_assoc, ih x y _ _ h1.1 h1.2.1 h2.1 h1.2.2 h2.2,
      obL_cmp ih xs ys r s (fun z hz => hl z (List.mem_cons_of_mem _ hz)) (fun z hz => hm z (List.mem_cons_of_mem _ hz))]
    unfold thn
    by_cases h : x.cmp y = 0
    · simp [h]
    · simp [h]

theorem obF_cmp {N : Nat} (ih : ∀ a b r s, a.dep ≤ N → a.pl → b.pl → a.n64 → b.n64 → cmpL (V.ob a ++ r) (V.ob b ++ s) = thn (a.cmp b) (cmpL r s)) :
    ∀ (l m : List Fd) (r s : L8), (∀ x ∈ l, x.2.dep ≤ N ∧ x.2.pl ∧ x.2.n64) → (∀ x ∈ m, x.2.pl ∧ x.2.n64) → cmpL (obF l ++ 1 :: r) (obF m ++ 1 :: s) = thn (lexL cmpFd l m) (cmpL r s)
  | [], [], r, s, _, _ => by rw [lexL, obF]; simp [thn, cmpL_cons]
  | [], y :: ys, r, s, _, _ => by
    rw [lexL, obF, obF, List.cons_append, List.cons_append, List.nil_append, cmpL_cons, if_pos (by decide)]
    simp [thn]
  | x :: xs, [], r, s, _, _ => by
    rw [lexL, obF, obF, List.cons_append, List.cons_append, List.nil_append, cmpL_cons, if_neg (by decide), if_pos (by decide)]
    simp [thn]
  | x :: xs, y :: ys, r, s, hl, hm => by
    have h1 := hl x (List.mem_cons_self ..)
    have h2 := hm y (List.mem_cons_self ..)
    have hr := obF_cmp ih xs ys r s (fun z hz => hl z (List.mem_cons_of_mem _ hz)) (fun z hz => hm z (List.mem_cons_of_mem _ hz))
    rw [lexL, obF, obF, List.cons_append, List.cons_append, List.cons_append, List.cons_append, cmpL_cons, if_neg (by decide), if_neg (by decide), List.append_assoc, List.append_assoc, List.append_assoc, List.append_assoc, cmpL_oT, ih x.2 y.2 _ _ h1.1 h1.2.1 h2.1 h1.2.2 h2.2, hr, cmpFd_eq]
    by_cases hn : x.1.data.toList = y.1.data.toList
    · rw [if_pos hn, hn, cmpL_self]
      unfold thn
      by_cases h : x.2.cmp y.2 = 0
      · simp [h]
      · simp [h]
    · have hne : cmpL x.1.data.toList y.1.data.toList ≠ 0 := fun h => hn (cmpL_zero.1 h)
      rw [if_neg hn]
      simp [thn, hne]

theorem ob_cmp : ∀ (N : Nat) (a b : V) (r s : L8), a.dep ≤ N → a.pl → b.pl → a.n64 → b.n64 → cmpL (a.ob ++ r) (b.ob ++ s) = thn (a.cmp b) (cmpL r s)
  | 0, a, _, _, _, hd, _, _, _, _ => by cases a; rw [V.dep] at hd; omega
  | N + 1, a, b, r, s, hd, ha, hb, na, nb => by
    have ka := pl_kind ha
    have kb := pl_kind hb
    by_cases hk : a.kind = b.kind
    · have hdl : ∀ x ∈ a.list, x.dep ≤ N := fun x hx => by have := dep_list hx; omega
      have hdf : ∀ p ∈ a.fields, p.2.dep ≤ N := fun p hp => by have := dep_fields hp; omega
      cases ha <;> cases hb <;> first
        | (exfalso; simp [V.null, V.ofBool, V.ofInt, V.ofText, V.ofList, V.ofMap, V.kind] at hk; done)
        | skip
      · rw [cmp_other V.null V.null rfl (by simp [V.null, V.kind]) (by simp [V.null, V.kind]) (by simp [V.null, V.kind]) (by simp [V.null, V.kind]) (by simp [V.null, V.kind])]
        simp [V.null, V.ob, thn, cmpL_cons]
      · rename_i a b
        rw [cmp_bool (V.ofBool a) (V.ofBool b) rfl rfl]
        cases a <;> cases b <;> simp [V.ofBool, V.ob, thn, cmpL_cons, V.yes, cmpYes]
      · rename_i a b
        rw [cmp_int (V.ofInt a) (V.ofInt b) rfl rfl]
        have e : ∀ n, (V.ofInt n).ob = 4 :: oI n := fun n => by simp [V.ofInt, V.ob]
        have en : ∀ n, (V.ofInt n).num = n := fun n => rfl
        rw [e, e, en, en, List.cons_append, List.cons_append, cmpL_cons, if_neg (by decide), if_neg (by decide), cmpL_oI na.1 nb.1]
        unfold thn cmpI
        by_cases h1 : a < b
        · simp [h1]
        · by_cases h2 : b < a
          · simp [h1, h2]
          · simp [h1, h2]
      · rename_i a b
        rw [cmp_text (V.ofText a) (V.ofText b) rfl rfl]
        have e : ∀ t, (V.ofText t).ob = 5 :: oT t.data.toList := fun t => by simp [V.ofText, V.ob]
        have en : ∀ t, (V.ofText t).text = t := fun t => rfl
        rw [e, e, en, en, List.cons_append, List.cons_append, cmpL_cons, if_neg (by decide), if_neg (by decide), cmpL_oT]
        unfold thn
        by_cases h : a.data.toList = b.data.toList
        · rw [if_pos h, h, cmpL_self]; simp
        · rw [if_neg h, if_pos (fun e => h (cmpL_zero.1 e))]
      · rename_i a ha b hb
        rw [cmp_list (V.ofList a) (V.ofList b) rfl rfl, show (V.ofList a).list = a from rfl, show (V.ofList b).list = b from rfl, cmpVs_lex]
        have h1 := n64L_iff.1 na.2.1
        have h2 := n64L_iff.1 nb.2.1
        have h := obL_cmp (ob_cmp N) a b r s (fun x hx => ⟨hdl x hx, ha x hx, h1 x hx⟩) (fun x hx => ⟨hb x hx, h2 x hx⟩)
        rw [← h]
        simp [V.ofList, V.ob, cmpL_cons]
      · rename_i a ha b hb
        rw [cmp_map (V.ofMap a) (V.ofMap b) rfl rfl, show (V.ofMap a).fields = a from rfl, show (V.ofMap b).fields = b from rfl, cmpFs_lex]
        have h1 := n64F_iff.1 na.2.2
        have h2 := n64F_iff.1 nb.2.2
        have h := obF_cmp (ob_cmp N) a b r s (fun x hx => ⟨hdf x hx, ha x hx, h1 x hx⟩) (fun x hx => ⟨hb x hx, h2 x hx⟩)
        rw [← h]
        simp [V.ofMap, V.ob, cmpL_cons]
    · obtain ⟨x, hx⟩ := ob_cons a
      obtain ⟨y, hy⟩ := ob_cons b
      rw [cmp_kinds _ _ hk, hx, hy, List.cons_append, List.cons_append, cmpL_cons, kind_byte ka.1 ka.2, kind_byte kb.1 kb.2]
      unfold thn cmpI
      by_cases h1 : a.kind < b.kind
      · rw [if_pos (show (a.kind + 2).toNat < (b.kind + 2).toNat by omega)]; simp [h1]
      · have h2 : b.kind < a.kind := by omega
        rw [if_neg (show ¬ (a.kind + 2).toNat < (b.kind + 2).toNat by omega), if_pos (show (b.kind + 2).toNat < (a.kind + 2).toNat by omega)]; simp [h1, h2]

end Go.Proofs.Ytacphlceggbfcaa
end

section
namespace Go.Proofs.Ytacphlceggbfcaa
open Go.RowKit

/-- what a value's bytes ask of it: kinds and numbers as they may be -/
inductive V.okk : V → Prop
  | mk (k : Int) (y : Bool) (n : Int) (t : ByteArray) (l : List V) (f : List (ByteArray × V)) (hk : 0 ≤ k ∧ k ≤ 5) (hn : Is64 n) (hl : ∀ x ∈ l, V.okk x) (hf : ∀ p ∈ f, V.okk p.2) : V.okk (.mk k y n t l f)

def OVOK (N : Nat) : Prop := ∀ (v : V) (lv fv : Value) (B : Nat) (v0 : Value) (l0 : L8) (w : World), v.dep ≤ N → v.okk → v.At w (fun b => b < B) lv fv → B ≤ w.heap.size → Bs 5 B w v0 l0 → l0.length + 2 * v.ob.length ≤ 140737488350000 →
  Calls Try.prog 22 #[v0, .agg #[.int .i64 v.kind, .bool v.yes, .int .i64 v.num, .string v.text, lv, fv]] w (LaidPost B v0 (l0 ++ v.ob) w)

theorem oflag_any (y : Bool) (w : World) : Calls Try.prog 57 #[.bool y] w fun e w' => e = .returned (.int .u8 (if y then 3 else 2)) ∧ w = w' := by
  cases y
  · go_enter Try.func57, Try.ntmps57
    go_wp2
    go_ret
    exact ⟨rfl, rfl⟩
  · go_enter Try.func57, Try.ntmps57
    go_wp2
    go_ret
    exact ⟨rfl, rfl⟩

theorem Up.under {w : World} {o : Obj} {v w' v'} (h : Up (w.alloc o) v w' v') : Up w v w' v' := h.alloc

set_option maxHeartbeats 4000000 in
set_option maxRecDepth 100000 in
/-- the values that are no list and no map -/
theorem oval_plain (k : Int) (y : Bool) (n : Int) (t : ByteArray) (l : List V) (f : List Fd) (lv fv : Value) (B : Nat) (v0 : Value) (l0 : L8) (w : World) (hk0 : 0 ≤ k) (hk3 : k ≤ 3) (hn : Is64 n)
    (hat : (V.mk k y n t l f).At w (fun b => b < B) lv fv) (hB : B ≤ w.heap.size) (hown : Bs 5 B w v0 l0) (hl : l0.length + 2 * (V.mk k y n t l f).ob.length ≤ 140737488350000) :
    Calls Try.prog 22 #[v0, .agg #[.int .i64 k, .bool y, .int .i64 n, .string t, lv, fv]] w (LaidPost B v0 (l0 ++ (V.mk k y n t l f).ob) w) := by
  obtain ⟨⟨a, c, rfl⟩, ⟨a', c', rfl⟩, _, _⟩ := hat.is.len
  obtain ⟨a0, c0, rfl⟩ := hown.lenEq
  simp only [V.list, V.fields] at *
  have hownB : Bs 5 B (w.alloc (.cells #[.int .i64 k, .bool y, .int .i64 n, .string t, .slice a l.length c, .slice a' f.length c'] 26)) (.slice a0 l0.length c0) l0 := World.ownsRow.alloc hown _
  have hBB : B ≤ (w.alloc (.cells #[.int .i64 k, .bool y, .int .i64 n, .string t, .slice a l.length c, .slice a' f.length c'] 26)).heap.size := by simp; omega
  have hob : Hid ((V.mk k y n t l f).ob = UInt8.ofNat (k + 2).toNat :: (if k = 1 then [if y then 3 else 2] else if k = 2 then oI n else if k = 3 then oT t.data.toList else if k = 4 then obL l ++ [1] else if k = 5 then obF f ++ [1] else [])) := Lib.hid (by rw [V.ob])
  rw [hob.out] at hl
  have HN := Lib.hid hn
  have hkk : k = 0 ∨ k = 1 ∨ k = 2 ∨ k = 3 := by omega
  clear hn hat hk0 hk3
  rcases hkk with rfl | rfl | rfl | rfl
  · simp at hl
    go_enter Try.func22, Try.ntmps22
    go_wp2_with (at_builtin; refine wpList_app1H _ (w.heap.size + 1) (by simp) rfl (.tmp 9) (.tmp 14) 44 rfl 5 B Try.underlying44 infoB _ l0 rfl hownB _ _ rfl (by decide) (by decide) (by omega) hBB ?_; intro v1 w1 hown1 hup1; have hc0 := (box_kept hown hup1 0); have hc1 := (box_kept hown hup1 1); have hc2 := (box_kept hown hup1 2); have hc3 := (box_kept hown hup1 3); simp at hc0 hc1 hc2 hc3)
    go_ret
    exact ⟨v1, rfl, by rw [hob.out]; simpa using hown1, hup1.alloc⟩
  · simp at hl
    go_enter Try.func22, Try.ntmps22
    go_wp2_with (at_builtin; refine wpList_app1H _ (w.heap.size + 1) (by simp) rfl (.tmp 9) (.tmp 14) 44 rfl 5 B Try.underlying44 infoB _ l0 rfl hownB _ _ rfl (by decide) (by decide) (by omega) hBB ?_; intro v1 w1 hown1 hup1; have hc0 := (box_kept hown hup1 0); have hc1 := (box_kept hown hup1 1); have hc2 := (box_kept hown hup1 2); have hc3 := (box_kept hown hup1 3); simp at hc0 hc1 hc2 hc3)
    have hz1 := hup1.1.size
    go_wp2_with fail
    refine (oflag_any y _).mono ?_
    rintro e w2 ⟨rfl, rfl⟩
    have hby : (0 : Int) ≤ (if y = true then 3 else 2) ∧ (if y = true then 3 else 2 : Int) < 256 := by cases y <;> simp
    have hbz : UInt8.ofNat (if y = true then 3 else 2 : Int).toNat = (if y = true then 3 else 2) := by cases y <;> rfl
    generalize (if y = true then 3 else 2 : Int) = b at hby hbz
    go_wp2_with (at_builtin; refine wpList_app1 _ rfl (.tmp 20) (.tmp 24) 44 rfl 5 B Try.underlying44 infoB _ _ rfl hown1 _ _ rfl hby.1 hby.2 (by simp; omega) (by omega) ?_; intro v2 w2 hown2 hup2)
    go_ret
    exact ⟨v2, rfl, by rw [hob.out]; rw [hbz] at hown2; simpa using hown2, (hup1.trans hup2).alloc⟩
  · have hoi := oI_length n
    rw [if_neg (by decide), if_pos rfl] at hl
    rw [List.length_cons] at hl
    go_enter Try.func22, Try.ntmps22
    go_wp2_with (at_builtin; refine wpList_app1H _ (w.heap.size + 1) (by simp) rfl (.tmp 9) (.tmp 14) 44 rfl 5 B Try.underlying44 infoB _ l0 rfl hownB _ _ rfl (by decide) (by decide) (by omega) hBB ?_; intro v1 w1 hown1 hup1; have hc0 := (box_kept hown hup1 0); have hc1 := (box_kept hown hup1 1); have hc2 := (box_kept hown hup1 2); have hc3 := (box_kept hown hup1 3); simp at hc0 hc1 hc2 hc3)
    have hz1 := hup1.1.size
    go_wp2_with fail
    refine (oint_any B v1 _ n HN.out w1 (by simp; omega) (by omega) hown1).mono ?_
    rintro e w2 ⟨v2, rfl, hown2, hup2⟩
    go_wp2
    go_ret
    exact ⟨v2, rfl, by rw [hob.out]; simpa using hown2, (hup1.trans hup2).alloc⟩
  · have hoi := oT_ge t.data.toList
    have hts : t.data.toList.length = t.size := by rw [Array.length_toList]; rfl
    rw [if_neg (by decide), if_neg (by decide), if_pos rfl, List.length_cons] at hl
    go_enter Try.func22, Try.ntmps22
    go_wp2_with (at_builtin; refine wpList_app1H _ (w.heap.size + 1) (by simp) rfl (.tmp 9) (.tmp 14) 44 rfl 5 B Try.underlying44 infoB _ l0 rfl hownB _ _ rfl (by decide) (by decide) (by omega) hBB ?_; intro v1 w1 hown1 hup1; have hc0 := (box_kept hown hup1 0); have hc1 := (box_kept hown hup1 1); have hc2 := (box_kept hown hup1 2); have hc3 := (box_kept hown hup1 3); simp at hc0 hc1 hc2 hc3)
    have hz1 := hup1.1.size
    go_wp2_with fail
    refine (otext_any B v1 _ t w1 (by simp; omega) (by omega) hown1).mono ?_
    rintro e w2 ⟨v2, rfl, hown2, hup2⟩
    go_wp2
    go_ret
    exact ⟨v2, rfl, by rw [hob.out]; simpa using hown2, (hup1.trans hup2).alloc⟩

end Go.Proofs.Ytacphlceggbfcaa
end

section
namespace Go.Proofs.Ytacphlceggbfcaa
open Go.RowKit

/-- one byte appended: what comes of it -/
theorem app_byte (W : World) (B : Nat) (v : Value) (l : List UInt8) (hown : Bs 5 B W v l) (b : Int) (h0 : 0 ≤ b) (h1 : b < 256) (h63 : l.length < 140737488355328) (hbase : B ≤ W.heap.size) :
    ∃ v' w', (Builtin.append_ #[44, 44] 44 #[v, .slice (some ⟨W.heap.size, 0, none⟩) 1 1]).run Try.prog (W.alloc (.cells #[.int .u8 b] 5)) = .ok v' w' ∧ Bs 5 B w' v' (l ++ [UInt8.ofNat b.toNat]) ∧ Up W v w' v' := by
  obtain ⟨i, hi, hz, hi1, hi2⟩ := info_parts infoB
  have hn : ∀ j u, [Value.int .u8 b][j]? = some u → (W.alloc (.cells #[.int .u8 b] 5)).cell? ((⟨W.heap.size, 0, none⟩ : Addr).add j) = some u := by
    intro j u hj
    match j, hj with
    | 0, hj => simp at hj; subst hj; simp [Addr.add]
  obtain ⟨v', w', hr, ho', hu⟩ := run_app (P := Try.prog) (W.alloc (.cells #[.int .u8 b] 5)) B 44 44 5 i (.int .u8 0) 1 1 Try.underlying44 hi hz hi1 hi2 rfl (by decide) v l.length (Lib.byteCells l) (hown.alloc _)
    ⟨W.heap.size, 0, none⟩ 1 1 [.int .u8 b] rfl hn (by intro u hu; simp at hu; subst hu; rfl) (by unfold maxLen; omega) (by omega) (by simp; omega)
  refine ⟨v', w', hr, ?_, hu.alloc⟩
  have e : Lib.byteCells [UInt8.ofNat b.toNat] = [.int .u8 b] := by
    have : b.toNat % 256 = b.toNat := by omega
    simp [Lib.byteCells, this]; omega
  unfold Bs
  rw [Lib.byteCells_append, List.length_append, e]
  exact ho'

set_option maxHeartbeats 4000000 in
set_option maxRecDepth 100000 in
theorem oval_list (N : Nat) (ih : OVOK N) (y : Bool) (n : Int) (t : ByteArray) (l : List V) (f : List Fd) (hdl : ∀ x ∈ l, x.dep ≤ N) (hok : ∀ x ∈ l, x.okk) (lv fv : Value) (B : Nat) (v0 : Value) (l0 : L8) (w : World)
    (hat : (V.mk 4 y n t l f).At w (fun b => b < B) lv fv) (hB : B ≤ w.heap.size) (hown : Bs 5 B w v0 l0) (hl : l0.length + 2 * (V.mk 4 y n t l f).ob.length ≤ 140737488350000) :
    Calls Try.prog 22 #[v0, .agg #[.int .i64 4, .bool y, .int .i64 n, .string t, lv, fv]] w (LaidPost B v0 (l0 ++ (V.mk 4 y n t l f).ob) w) := by
  obtain ⟨⟨a, c, rfl⟩, ⟨a', c', rfl⟩, hLb, hFb⟩ := hat.is.len
  obtain ⟨a0, c0, rfl⟩ := hown.lenEq
  simp only [V.list, V.fields] at *
  have hownB : Bs 5 B (w.alloc (.cells #[.int .i64 4, .bool y, .int .i64 n, .string t, .slice a l.length c, .slice a' f.length c'] 26)) (.slice a0 l0.length c0) l0 := World.ownsRow.alloc hown _
  have hBB : B ≤ (w.alloc (.cells #[.int .i64 4, .bool y, .int .i64 n, .string t, .slice a l.length c, .slice a' f.length c'] 26)).heap.size := by simp; omega
  have hbw : Below B w (w.alloc (.cells #[.int .i64 4, .bool y, .int .i64 n, .string t, .slice a l.length c, .slice a' f.length c'] 26)) := (Below.refl _ _).alloc hB _
  have hob : Hid ((V.mk 4 y n t l f).ob = 6 :: (obL l ++ [1])) := Lib.hid (by rw [V.ob]; rfl)
  rw [hob.out] at hl
  simp only [List.length_cons, List.length_append, List.length_nil] at hl
  have HDL := Lib.hid hdl
  have HOK := Lib.hid hok
  have HAT := Lib.hid hat
  clear hdl hok hat
  go_enter Try.func22, Try.ntmps22
  go_wp2_with (at_builtin; refine wpList_app1H _ (w.heap.size + 1) (by simp) rfl (.tmp 9) (.tmp 14) 44 rfl 5 B Try.underlying44 infoB _ l0 rfl hownB _ _ rfl (by decide) (by decide) (by omega) hBB ?_; intro v1 w1 hown1 hup1; have hc0 := (box_kept hown hup1 0); have hc4 := (box_kept hown hup1 4); have hc5 := (box_kept hown hup1 5); simp at hc0 hc4 hc5)
  have hz1 := hup1.1.size
  clear hc0 hc5
  go_wp2_with fail
  go_loopw [0, 43] (fun x i wr => ∃ j : Nat, j ≤ l.length ∧ i = .int .i64 j ∧ Bs 5 B wr x (l0 ++ 6 :: obL (l.take j)) ∧ Up (w.alloc (.cells #[.int .i64 4, .bool y, .int .i64 n, .string t, .slice a l.length c, .slice a' f.length c'] 26)) (.slice a0 l0.length c0) wr x) (fun _ i _ => l.length - (intOf i).toNat)
  case atStart => exact ⟨0, Nat.zero_le _, rfl, by simpa [obL] using hown1, hup1⟩
  case round =>
    clear hown1 hup1 hz1 hc4
    obtain ⟨j, hj, rfl, hownj, hupj⟩ := hrel
    have hbj := hbw.trans (hupj.below hownB hBB)
    have hzj := Nat.le_trans hB hbj.size
    have hle := obL_le l j
    by_cases hjl : j < l.length
    · have hatj := HAT.out.low hbj
      obtain ⟨⟨a2, c2, e1, _, _, hcl⟩, _⟩ := V.at_iff.1 hatj
      injection e1 with e1 e3 e2
      clear e3
      subst e1 e2
      obtain ⟨b, off, rfl, hbB, hbl, hLC⟩ : ∃ b off, a = some ⟨b, off, none⟩ ∧ b < B ∧ b < wr.heap.size ∧ LCells wr (fun b => b < B) b off l := by
        rcases hcl with h | h
        · have h : l = [] := h
          rw [h] at hjl; simp at hjl
        · exact h
      obtain ⟨lv', fv', hin, hel⟩ := hLC.get hjl
      have hxf := HOK.out _ (List.getElem_mem hjl)
      have hxd := HDL.out _ (List.getElem_mem hjl)
      obtain ⟨q0, q1, q2, q3, q4, q5⟩ := hin.six
      have htk := obL_take l j hjl
      have hle2 := obL_le l (j + 1)
      generalize l[j] = x at q0 q1 q2 q3 q4 q5 hel hxf hxd htk
      obtain ⟨⟨ax, cx, rfl⟩, ⟨ax', cx', rfl⟩, _, _⟩ := hel.is.len
      have hjl' : (j : Int) < (l.length : Int) := by omega
      have hlen : (l0 ++ 6 :: obL (l.take j)).length + 2 * x.ob.length ≤ 140737488350000 := by
        rw [htk, List.length_append] at hle2
        simp only [List.length_cons, List.length_append]
        omega
      have HT := Lib.hid htk
      have hown5 : Bs 5 B (wr.alloc (.cells #[.int .i64 x.kind, .bool x.yes, .int .i64 x.num, .string x.text, .slice ax x.list.length cx, .slice ax' x.fields.length cx'] 26)) u0 (l0 ++ 6 :: obL (l.take j)) := World.ownsRow.alloc hownj _
      have hcall := ih x _ _ B u0 _ (wr.alloc (.cells #[.int .i64 x.kind, .bool x.yes, .int .i64 x.num, .string x.text, .slice ax x.list.length cx, .slice ax' x.fields.length cx'] 26)) hxd hxf (hel.low ((Below.refl B wr).alloc hzj _)) (by simp; omega) hown5 hlen
      clear htk hin hel hLC hatj hcl hownj hle2 hlen
      go_wp2_with fail
      refine hcall.mono ?_
      rintro e w3 ⟨v3, rfl, hown3, hup3⟩
      clear hcall
      go_wp2
      go_roundw
      case rel =>
        refine ⟨j + 1, by omega, by go_num, ?_, hupj.trans hup3.alloc⟩
        rw [HT.out]
        simpa using hown3
      case measure => simp [intOf]; omega
    · have hge : ¬ (j : Int) < (l.length : Int) := by omega
      have e : l.take j = l := List.take_of_length_le (by omega)
      rw [e] at hownj
      clear hjl e
      go_wp2_with (at_builtin; refine wpList_app1 _ rfl (.tmp 51) (.tmp 52) 44 rfl 5 B Try.underlying44 infoB _ _ rfl hownj _ _ rfl (by decide) (by decide) (by simp; omega) hzj ?_; intro v2 w2 hown2 hup2)
      go_ret
      exact ⟨v2, rfl, by rw [hob.out]; simpa using hown2, (hupj.trans hup2).alloc⟩

section
attribute [-go_sem] Builtin.append_
set_option maxHeartbeats 4000000 in
set_option maxRecDepth 100000 in
theorem oval_map (N : Nat) (ih : OVOK N) (y : Bool) (n : Int) (t : ByteArray) (l : List V) (f : List Fd) (hdf : ∀ p ∈ f, p.2.dep ≤ N) (hok : ∀ p ∈ f, p.2.okk) (lv fv : Value) (B : Nat) (v0 : Value) (l0 : L8) (w : World)
    (hat : (V.mk 5 y n t l f).At w (fun b => b < B) lv fv) (hB : B ≤ w.heap.size) (hown : Bs 5 B w v0 l0) (hl : l0.length + 2 * (V.mk 5 y n t l f).ob.length ≤ 140737488350000) :
    Calls Try.prog 22 #[v0, .agg #[.int .i64 5, .bool y, .int .i64 n, .string t, lv, fv]] w (LaidPost B v0 (l0 ++ (V.mk 5 y n t l f).ob) w) := by
  obtain ⟨⟨a, c, rfl⟩, ⟨a', c', rfl⟩, hLb, hFb⟩ := hat.is.len
  obtain ⟨a0, c0, rfl⟩ := hown.lenEq
  simp only [V.list, V.fields] at *
  have hownB : Bs 5 B (w.alloc (.cells #[.int .i64 5, .bool y, .int .i64 n, .string t, .slice a l.length c, .slice a' f.length c'] 26)) (.slice a0 l0.length c0) l0 := World.ownsRow.alloc hown _
  have hBB : B ≤ (w.alloc (.cells #[.int .i64 5, .bool y, .int .i64 n, .string t, .slice a l.length c, .slice a' f.length c'] 26)).heap.size := by simp; omega
  have hbw : Below B w (w.alloc (.cells #[.int .i64 5, .bool y, .int .i64 n, .string t, .slice a l.length c, .slice a' f.length c'] 26)) := (Below.refl _ _).alloc hB _
  have hob : Hid ((V.mk 5 y n t l f).ob = 7 :: (obF f ++ [1])) := Lib.hid (by rw [V.ob]; rfl)
  rw [hob.out] at hl
  simp only [List.length_cons, List.length_append, List.length_nil] at hl
  have HDF := Lib.hid hdf
  have HOK := Lib.hid hok
  have HAT := Lib.hid hat
  clear hdf hok hat
  go_enter Try.func22, Try.ntmps22
  go_wp2_with (at_builtin; refine wpList_app1H _ (w.heap.size + 1) (by simp) rfl (.tmp 9) (.tmp 14) 44 rfl 5 B Try.underlying44 infoB _ l0 rfl hownB _ _ rfl (by decide) (by decide) (by omega) hBB ?_; intro v1 w1 hown1 hup1; have hc0 := (box_kept hown hup1 0); have hc4 := (box_kept hown hup1 4); have hc5 := (box_kept hown hup1 5); simp at hc0 hc4 hc5)
  have hz1 := hup1.1.size
  clear hc0 hc4
  go_wp2_with fail
  go_loopw [0, 59] (fun x i wr => ∃ j : Nat, j ≤ f.length ∧ i = .int .i64 j ∧ Bs 5 B wr x (l0 ++ 7 :: obF (f.take j)) ∧ Up (w.alloc (.cells #[.int .i64 5, .bool y, .int .i64 n, .string t, .slice a l.length c, .slice a' f.length c'] 26)) (.slice a0 l0.length c0) wr x) (fun _ i _ => f.length - (intOf i).toNat)
  case atStart => exact ⟨0, Nat.zero_le _, rfl, by simpa [obF] using hown1, hup1⟩
  case round =>
    clear hown1 hup1 hz1 hc5
    obtain ⟨j, hj, rfl, hownj, hupj⟩ := hrel
    have hbj := hbw.trans (hupj.below hownB hBB)
    have hzj := Nat.le_trans hB hbj.size
    have hle := obF_le f j
    by_cases hjl : j < f.length
    · have hatj := HAT.out.low hbj
      obtain ⟨_, ⟨a2, c2, e1, _, _, hcl⟩⟩ := V.at_iff.1 hatj
      injection e1 with e1 e3 e2
      clear e3
      subst e1 e2
      obtain ⟨b, off, rfl, hbB, hbl, hFC⟩ : ∃ b off, a' = some ⟨b, off, none⟩ ∧ b < B ∧ b < wr.heap.size ∧ FCells wr (fun b => b < B) b off f := by
        rcases hcl with h | h
        · have h : f = [] := h
          rw [h] at hjl; simp at hjl
        · exact h
      obtain ⟨lv', fv', hin, hel⟩ := hFC.get hjl
      have hxf := HOK.out _ (List.getElem_mem hjl)
      have hxd := HDF.out _ (List.getElem_mem hjl)
      obtain ⟨q0, q1, q2, q3, q4, q5, q6⟩ := hin.seven
      have htk := obF_take f j hjl
      have hle2 := obF_le f (j + 1)
      generalize (f[j]).1 = nm at q0 htk
      generalize (f[j]).2 = x at q1 q2 q3 q4 q5 q6 hel hxf hxd htk
      obtain ⟨⟨ax, cx, rfl⟩, ⟨ax', cx', rfl⟩, _, _⟩ := hel.is.len
      have hjl' : (j : Int) < (f.length : Int) := by omega
      have hnm := oT_ge nm.data.toList
      have hns : nm.data.toList.length = nm.size := by rw [Array.length_toList]; rfl
      have hlen1 : (l0 ++ 7 :: obF (f.take j)).length + 2 + 2 * nm.size + 2 * x.ob.length + 2 < 140737488350000 := by
        rw [htk, List.length_append] at hle2
        simp only [List.length_cons, List.length_append] at hle2 ⊢
        omega
      have hlen2 : ((l0 ++ 7 :: obF (f.take j)) ++ [2] ++ oT nm.data.toList).length + 2 * x.ob.length ≤ 140737488350000 := by
        rw [htk, List.length_append] at hle2
        simp only [List.length_cons, List.length_append, List.length_nil] at hle2 ⊢
        omega
      have HT := Lib.hid htk
      obtain ⟨L1, hL1⟩ : ∃ L1, L1 = l0 ++ 7 :: obF (f.take j) := ⟨_, rfl⟩
      rw [← hL1] at hownj hlen1 hlen2
      have HL1 := Lib.hid hL1
      have HLN := Lib.hid (And.intro hlen1 hlen2)
      have hl1 : L1.length < 140737488355328 := by omega
      clear hL1 hle2 hlen1 hlen2 hnm hns
      have hb5 : Below B wr (wr.alloc (.cells #[.string nm, .int .i64 x.kind, .bool x.yes, .int .i64 x.num, .string x.text, .slice ax x.list.length cx, .slice ax' x.fields.length cx'] 68)).drew := ((Below.refl B wr).alloc hzj _).drew
      have hz5 : B ≤ (wr.alloc (.cells #[.string nm, .int .i64 x.kind, .bool x.yes, .int .i64 x.num, .string x.text, .slice ax x.list.length cx, .slice ax' x.fields.length cx'] 68)).drew.heap.size := Nat.le_trans hzj hb5.size
      have hown5 : Bs 5 B (wr.alloc (.cells #[.string nm, .int .i64 x.kind, .bool x.yes, .int .i64 x.num, .string x.text, .slice ax x.list.length cx, .slice ax' x.fields.length cx'] 68)).drew u0 L1 := World.ownsRow.alloc hownj _
      have hup5 : Up wr u0 (wr.alloc (.cells #[.string nm, .int .i64 x.kind, .bool x.yes, .int .i64 x.num, .string x.text, .slice ax x.list.length cx, .slice ax' x.fields.length cx'] 68)).drew u0 := ⟨⟨rfl, rfl, rfl, by simp, fun k hk _ => Below.heap_alloc wr _ k hk⟩, .inl rfl⟩
      have hel5 := Lib.hid (hel.low hb5)
      have hkeep : Hid (∀ (w' : World) (V' : Value), Up (wr.alloc (.cells #[.string nm, .int .i64 x.kind, .bool x.yes, .int .i64 x.num, .string x.text, .slice ax x.list.length cx, .slice ax' x.fields.length cx'] 68)).drew u0 w' V' → w'.cell? ⟨wr.heap.size, 0, none⟩ = some (.string nm) ∧ w'.cell? ⟨wr.heap.size, 1, none⟩ = some (.int .i64 x.kind) ∧ w'.cell? ⟨wr.heap.size, 2, none⟩ = some (.bool x.yes) ∧ w'.cell? ⟨wr.heap.size, 3, none⟩ = some (.int .i64 x.num) ∧ w'.cell? ⟨wr.heap.size, 4, none⟩ = some (.string x.text) ∧ w'.cell? ⟨wr.heap.size, 5, none⟩ = some (.slice ax x.list.length cx) ∧ w'.cell? ⟨wr.heap.size, 6, none⟩ = some (.slice ax' x.fields.length cx')) := Lib.hid (fun w' V' hup => by
        have hkk := fun i => World.cell?_of_block (a := ⟨wr.heap.size, i, none⟩) (hup.1.block wr.heap.size (by simp) (fun e => by have := (World.ownsRow.lt hownj _ e.symm).2; omega))
        exact ⟨by rw [hkk]; simp, by rw [hkk]; simp, by rw [hkk]; simp, by rw [hkk]; simp, by rw [hkk]; simp, by rw [hkk]; simp, by rw [hkk]; simp⟩)
      have HXD := Lib.hid hxd
      have HXF := Lib.hid hxf
      have HB5 := Lib.hid hb5
      obtain ⟨v2, w2, hrun, hown2, hup2⟩ := app_byte (wr.alloc (.cells #[.string nm, .int .i64 x.kind, .bool x.yes, .int .i64 x.num, .string x.text, .slice ax x.list.length cx, .slice ax' x.fields.length cx'] 68)).drew B u0 L1 hown5 2 (by decide) (by decide) hl1 hz5
      have hS2 := hkeep.out w2 v2 hup2
      have hb2 := hup2.below hown5 hz5
      have hz0 : (wr.alloc (.cells #[.string nm, .int .i64 x.kind, .bool x.yes, .int .i64 x.num, .string x.text, .slice ax x.list.length cx, .slice ax' x.fields.length cx'] 68)).drew.heap.size = wr.heap.size + 1 := by show (wr.alloc (.cells #[.string nm, .int .i64 x.kind, .bool x.yes, .int .i64 x.num, .string x.text, .slice ax x.list.length cx, .slice ax' x.fields.length cx'] 68)).heap.size = _; simp
      rw [hz0] at hrun
      have hrun2 : (Builtin.append_ #[44, 44] 44 #[u0, .slice (some ⟨wr.heap.size + 1, 0, none⟩) 1 1]).run Try.prog ((wr.alloc (.cells #[.string nm, .int .i64 x.kind, .bool x.yes, .int .i64 x.num, .string x.text, .slice ax x.list.length cx, .slice ax' x.fields.length cx'] 68)).alloc (.cells #[.int .u8 2] 5)).drew = .ok v2 w2 := hrun
      clear htk hin hel hFC hatj hcl hxd hxf hb5 hz0
      go_wp2_with fail
      go_region_held3 (fun w' => w'.cell? ⟨wr.heap.size, 0, none⟩ = some (.string nm) ∧ w'.cell? ⟨wr.heap.size, 1, none⟩ = some (.int .i64 x.kind) ∧ w'.cell? ⟨wr.heap.size, 2, none⟩ = some (.bool x.yes) ∧ w'.cell? ⟨wr.heap.size, 3, none⟩ = some (.int .i64 x.num) ∧ w'.cell? ⟨wr.heap.size, 4, none⟩ = some (.string x.text) ∧ w'.cell? ⟨wr.heap.size, 5, none⟩ = some (.slice ax x.list.length cx) ∧ w'.cell? ⟨wr.heap.size, 6, none⟩ = some (.slice ax' x.fields.length cx')) (first | go_keep | exact hS2 | exact hS3 | exact hS4)
        (first
          | (go_at_call 56
             refine (otext_any B v2 _ nm w2 ?_ ?_ hown2).mono ?_
             · have := HLN.out.1; simp; omega
             · exact Nat.le_trans hz5 hb2.size
             rintro e w3 ⟨v3, rfl, hown3, hup3⟩
             have hS3 := hkeep.out w3 v3 (hup2.trans hup3)
             have hb3 := hb2.trans (hup3.below hown2 (Nat.le_trans hz5 hb2.size)))
          | (go_at_call 22
             refine (ih x _ _ B v3 _ w3 HXD.out HXF.out (hel5.out.low hb3) (Nat.le_trans hz5 hb3.size) hown3 ?_).mono ?_
             · exact HLN.out.2
             rintro e w4 ⟨v4, rfl, hown4, hup4⟩
             have hS4 := hkeep.out w4 v4 ((hup2.trans hup3).trans hup4)))
      go_wp2
      go_roundw
      case rel =>
        refine ⟨j + 1, by omega, by go_num, ?_, hupj.trans (hup5.trans ((hup2.trans hup3).trans hup4))⟩
        rw [HT.out]
        rw [HL1.out] at hown4
        simpa using hown4
      case measure => simp [intOf]; omega
    · have hge : ¬ (j : Int) < (f.length : Int) := by omega
      have e : f.take j = f := List.take_of_length_le (by omega)
      rw [e] at hownj
      clear hjl e
      go_wp2_with (at_builtin; refine wpList_app1 _ rfl (.tmp 73) (.tmp 74) 44 rfl 5 B Try.underlying44 infoB _ _ rfl hownj _ _ rfl (by decide) (by decide) (by simp; omega) hzj ?_; intro v2 w2 hown2 hup2)
      go_ret
      exact ⟨v2, rfl, by rw [hob.out]; simpa using hown2, (hupj.trans hup2).alloc⟩

end
theorem oval_all : ∀ N, OVOK N
  | 0 => fun v lv fv B v0 l0 w hd => by
    cases v
    rw [V.dep] at hd
    omega
  | N + 1 => fun v lv fv B v0 l0 w hd hok hat hB hown hl => by
    have hdl : ∀ x ∈ v.list, x.dep ≤ N := fun x hx => by have := dep_list hx; omega
    have hdf : ∀ p ∈ v.fields, p.2.dep ≤ N := fun p hp => by have := dep_fields hp; omega
    obtain ⟨k, y, n, t, l, f, hk, hn, hll, hff⟩ := hok
    by_cases h3 : k ≤ 3
    · exact oval_plain k y n t l f lv fv B v0 l0 w hk.1 h3 hn hat hB hown hl
    · by_cases h4 : k = 4
      · subst h4
        exact oval_list N (oval_all N) y n t l f hdl hll lv fv B v0 l0 w hat hB hown hl
      · obtain rfl : k = 5 := by omega
        exact oval_map N (oval_all N) y n t l f hdf hff lv fv B v0 l0 w hat hB hown hl

end Go.Proofs.Ytacphlceggbfcaa
end

section
namespace Go.Proofs.Ytacphlceggbfcaa.ordVals
open Go.RowKit Go.Proofs.Ytacphlceggbfcaa.rowB Go.Proofs.Ytacphlceggbfcaa.valOrders

/-- does a text begin with another one? -/
def begB (x y : L8) : Bool := decide (y <+: x)

theorem extract_pre (s : ByteArray) (n : Nat) : (s.extract 0 n).data.toList = s.data.toList.take n := by
  rw [Lib.extract_data]; simp

theorem begB_take (x y : L8) : begB x y = (x.take y.length == y) := by
  unfold begB
  rw [Bool.eq_iff_iff, decide_eq_true_eq, beq_iff_eq]
  constructor
  · intro k; exact (List.prefix_iff_eq_take.1 k).symm
  · intro k; exact List.prefix_iff_eq_take.2 k.symm

theorem begins_any (s t : ByteArray) (w : World) :
    Calls Try.prog 24 #[.string s, .string t] w fun e w' => e = .returned (.bool (begB s.data.toList t.data.toList)) ∧ w = w' := by
  by_cases h : t.size ≤ s.size
  · have h' : ¬ (s.size : Int) < (t.size : Int) := by omega
    have hb := begB_take s.data.toList t.data.toList
    rw [show t.data.toList.length = t.size by rw [Array.length_toList]; rfl] at hb
    have HB := Lib.hid hb
    clear hb
    go_enter Try.func24, Try.ntmps24
    go_wp2
    go_ret
    refine ⟨?_, rfl⟩
    rw [HB.out]
    congr 2; simp [Lib.toList_data]
  · have h' : (s.size : Int) < (t.size : Int) := by omega
    have hb : begB s.data.toList t.data.toList = false := by
      unfold begB
      rw [decide_eq_false_iff_not]
      intro k
      have := k.length_le
      rw [Array.length_toList, Array.length_toList] at this
      exact h this
    have HB := Lib.hid hb
    clear hb
    go_enter Try.func24, Try.ntmps24
    go_wp2
    go_ret
    exact ⟨by rw [HB.out]; rfl, rfl⟩

/-- the law's order of texts -/
theorem by_any (s t : ByteArray) (w : World) :
    Calls Try.prog 25 #[.string s, .string t] w fun e w' => e = .returned (.int .i64 (cmpL s.data.toList t.data.toList)) ∧ w = w' := by
  rcases lt_tri s.data.toList t.data.toList with h | h | h
  · have e1 : Op.bytesLess s.toList t.toList = true := by rw [Proofs.bytesLess_eq, Lib.toList_data, Lib.toList_data]; exact decide_eq_true h
    have hc := cmpL_lt h
    clear h
    go_enter Try.func25, Try.ntmps25
    go_wp2
    go_ret
    exact ⟨by rw [hc]; rfl, rfl⟩
  · have e1 : Op.bytesLess s.toList t.toList = false := by rw [Proofs.bytesLess_eq, Lib.toList_data, Lib.toList_data, h]; exact decide_eq_false (lt_irr _)
    have e2 : (s.toList == t.toList) = true := by rw [Lib.toList_data, Lib.toList_data, h]; simp
    have hc : cmpL s.data.toList t.data.toList = 0 := cmpL_zero.2 h
    clear h
    go_enter Try.func25, Try.ntmps25
    go_wp2
    go_ret
    exact ⟨by rw [hc]; rfl, rfl⟩
  · have e1 : Op.bytesLess s.toList t.toList = false := by rw [Proofs.bytesLess_eq, Lib.toList_data, Lib.toList_data]; exact decide_eq_false (lt_asym h)
    have e2 : (s.toList == t.toList) = false := by
      rw [Lib.toList_data, Lib.toList_data, beq_eq_false_iff_ne]; intro e; rw [e] at h; exact lt_irr _ h
    have hc := cmpL_gt h
    clear h
    go_enter Try.func25, Try.ntmps25
    go_wp2
    go_ret
    exact ⟨by rw [hc]; rfl, rfl⟩


theorem sign_any (n : Int) (hn : Three n) (w : World) : Calls Try.prog 23 #[.int .i64 n] w fun e w' => e = .returned (.int .i64 n) ∧ w = w' := by
  rcases hn with rfl | rfl | rfl <;>
    (go_enter Try.func23, Try.ntmps23
     go_wp2
     go_ret
     exact ⟨rfl, rfl⟩)

theorem obL_len (K : Nat) : ∀ (l : List V), (∀ x ∈ l, x.ob.length ≤ K) → (obL l).length ≤ l.length * K
  | [], _ => by simp [obL]
  | v :: l, h => by
    rw [obL, List.length_append, List.length_cons, Nat.add_mul, Nat.one_mul]
    have := h v (List.mem_cons_self ..)
    have := obL_len K l fun x hx => h x (List.mem_cons_of_mem _ hx)
    omega
theorem obF_len (K : Nat) : ∀ (l : List Fd), (∀ x ∈ l, x.1.size ≤ 40 ∧ x.2.ob.length ≤ K) → (obF l).length ≤ l.length * (83 + K)
  | [], _ => by simp [obF]
  | v :: l, h => by
    rw [obF, List.length_append, List.length_cons, List.length_append, List.length_cons, Nat.add_mul, Nat.one_mul]
    have h1 := h v (List.mem_cons_self ..)
    have h2 := oT_length v.1.data.toList
    have h3 : v.1.data.toList.length = v.1.size := by rw [Array.length_toList]; rfl
    have := obF_len K l fun x hx => h x (List.mem_cons_of_mem _ hx)
    omega

theorem few_ob : ∀ (N : Nat) (v : V) (d : Int), 7 - d ≤ N → v.few d = true → v.ob.length ≤ 1000 * 9 ^ N
  | 0, v, d, hd, h => by
    obtain ⟨k, y, n, t, l, f⟩ := v
    have := (few_parts h).1
    omega
  | N + 1, v, d, hd, h => by
    obtain ⟨k, y, n, t, l, f⟩ := v
    obtain ⟨h1, h2, h3, h4, h5, h6⟩ := few_parts h
    have hl := obL_len (1000 * 9 ^ N) l fun x hx => few_ob N x (d + 1) (by omega) (fewL_iff.1 h5 x hx)
    have hf := obF_len (1000 * 9 ^ N) f fun p hp => ⟨(fewF_iff.1 h6 p hp).1, few_ob N p.2 (d + 1) (by omega) (fewF_iff.1 h6 p hp).2⟩
    have ht := oT_length t.data.toList
    have hts : t.data.toList.length = t.size := by rw [Array.length_toList]; rfl
    have hi := oI_length n
    have h9 : 1 ≤ 9 ^ N := Nat.one_le_pow _ _ (by omega)
    have hl2 : l.length * (1000 * 9 ^ N) ≤ 8 * (1000 * 9 ^ N) := Nat.mul_le_mul_right _ h2
    have hf2 : f.length * (83 + 1000 * 9 ^ N) ≤ 8 * (83 + 1000 * 9 ^ N) := Nat.mul_le_mul_right _ h3
    have hp : 9 ^ (N + 1) = 9 ^ N * 9 := Nat.pow_succ ..
    rw [V.ob, List.length_cons]
    split
    · simp; omega
    split
    · omega
    split
    · omega
    split
    · rw [List.length_append]; simp only [List.length_cons, List.length_nil]; omega
    split
    · rw [List.length_append]; simp only [List.length_cons, List.length_nil]; omega
    · simp; omega

theorem pl_okk : ∀ (N : Nat) (v : V), v.dep ≤ N → v.pl → v.n64 → v.okk
  | 0, v, hd, _, _ => by cases v; rw [V.dep] at hd; omega
  | N + 1, v, hd, hp, hn => by
    have hk := pl_kind hp
    have hdl : ∀ x ∈ v.list, x.dep ≤ N := fun x hx => by have := dep_list hx; omega
    have hdf : ∀ p ∈ v.fields, p.2.dep ≤ N := fun p hp => by have := dep_fields hp; omega
    cases hp with
    | null => exact .mk _ _ _ _ _ _ hk hn.1 (fun x hx => by cases hx) (fun x hx => by cases hx)
    | bool y => exact .mk _ _ _ _ _ _ hk hn.1 (fun x hx => by cases hx) (fun x hx => by cases hx)
    | int n => exact .mk _ _ _ _ _ _ hk hn.1 (fun x hx => by cases hx) (fun x hx => by cases hx)
    | text t => exact .mk _ _ _ _ _ _ hk hn.1 (fun x hx => by cases hx) (fun x hx => by cases hx)
    | list l h => exact .mk _ _ _ _ _ _ hk hn.1 (fun x hx => pl_okk N x (hdl x hx) (h x hx) (n64L_iff.1 hn.2.1 x hx)) (fun x hx => by cases hx)
    | map f h => exact .mk _ _ _ _ _ _ hk hn.1 (fun x hx => by cases hx) (fun p hp => pl_okk N p.2 (hdf p hp) (h p hp) (n64F_iff.1 hn.2.2 p hp))

/-- an empty row, and what came in behind it -/
theorem app_ahead (W : World) (am : Option Addr) (lm cm : Nat) (zm : List Int) (hrow : IsRow .u8 W am lm cm zm) (hl : lm ≤ 20) :
    ∃ v' w', (Builtin.append_ #[44, 44] 44 #[.slice (some ⟨W.heap.size, 0, none⟩) 0 0, .slice am lm cm]).run Try.prog (W.alloc (.cells #[] 5)) = .ok v' w' ∧ Bs 5 W.heap.size w' v' (bytesOf (zm.take lm)) ∧ Below W.heap.size W w' := by
  obtain ⟨i, hi, hz0, hi1, hi2⟩ := info_parts infoB
  have hown : Bs 5 W.heap.size (W.alloc (.cells #[] 5)) (.slice (some ⟨W.heap.size, 0, none⟩) 0 0) [] := World.ownsRow_made W #[] 0 (Nat.le_refl _) (by decide) rfl
  have hbw : Below W.heap.size W (W.alloc (.cells #[] 5)) := (Below.refl _ _).alloc (Nat.le_refl _) _
  rcases hrow with ⟨rfl, rfl, rfl, rfl⟩ | ⟨ad, rfl, hle, _, hz, hc, hw⟩
  · have h := run_append_owned_none (P := Try.prog) (w := W.alloc (.cells #[] 5)) W.heap.size 44 44 5 i 1 Try.underlying44 hi _ _ _ hown
    exact ⟨_, _, h, by simpa [bytesOf] using hown, hbw⟩
  · have hzb : ∀ z ∈ zm.take lm, 0 ≤ z ∧ z < 256 := fun z hz => u8_wf (hw z (List.mem_of_mem_take hz))
    have hll : (zm.take lm).length = lm := by simp; omega
    have hn : ∀ j u, ((zm.take lm).map (Value.int .u8))[j]? = some u → (W.alloc (.cells #[] 5)).cell? (ad.add j) = some u := by
      intro j u hj
      have hj' : j < (zm.take lm).length := by
        have := (List.getElem?_eq_some_iff.1 hj).1
        simpa using this
      have hj2 : j < lm := by omega
      have hj3 : j < zm.length := by omega
      rw [hbw.cell (World.block_lt_of_cell? W _ (hc j hj3)), hc j hj3]
      simp [hj2, hj3] at hj
      rw [← hj]
      simp [List.getD, hj3]
    obtain ⟨v', w', hr, ho', hu⟩ := run_app (P := Try.prog) (W.alloc (.cells #[] 5)) W.heap.size 44 44 5 i (.int .u8 0) 1 1 Try.underlying44 hi hz0 hi1 hi2 rfl (by decide) _ 0 (Lib.byteCells []) hown
      ad lm cm ((zm.take lm).map (Value.int .u8)) (by simp; omega) hn (by intro u hu; obtain ⟨z, _, rfl⟩ := List.mem_map.1 hu; rfl) (by unfold maxLen; omega) (by omega) (by simp)
    refine ⟨v', w', hr, ?_, hbw.trans (hu.below hown (by simp))⟩
    unfold Bs
    have e : (bytesOf (zm.take lm)).length = 0 + lm := by simp [bytesOf]; omega
    rw [e, byteCells_of _ hzb]
    rw [show Lib.byteCells [] = [] from rfl, List.nil_append] at ho'
    exact ho'

/-- what is laid of a value behind what came in, as a text -/
def ValS (W : World) (s : ByteArray) (e : Ending) (w' : World) : Prop := ∃ v3, e = .returned v3 ∧ (convert 44 9 v3).run Try.prog w' = .ok (.string s) w' ∧ Below W.heap.size W w'

def Six (w : World) (b : Nat) (c0 c1 c2 c3 c4 c5 : Value) : Prop := w.cell? ⟨b, 0, none⟩ = some c0 ∧ w.cell? ⟨b, 1, none⟩ = some c1 ∧ w.cell? ⟨b, 2, none⟩ = some c2 ∧ w.cell? ⟨b, 3, none⟩ = some c3 ∧ w.cell? ⟨b, 4, none⟩ = some c4 ∧ w.cell? ⟨b, 5, none⟩ = some c5

theorem pre7 (W : World) (n b : Nat) (u : V) (h6 : In6 W n b u) (am : Option Addr) (lm cm : Nat) (zm : List Int) (hrow : IsRow .u8 W am lm cm zm) (hl : lm ≤ 20) (hok : u.okk) (hob : u.ob.length ≤ 1000 * 9 ^ 7) :
    ∃ v2 w2 a1 c1 a2 c2, (Builtin.append_ #[44, 44] 44 #[.slice (some ⟨W.heap.size, 0, none⟩) 0 0, .slice am lm cm]).run Try.prog (W.drew.alloc (.cells #[] 5)) = .ok v2 w2 ∧ Below W.heap.size W w2 ∧
      (∀ W', Below W.heap.size W W' → Six W' b (.int .i64 u.kind) (.bool u.yes) (.int .i64 u.num) (.string u.text) (.slice a1 u.list.length c1) (.slice a2 u.fields.length c2)) ∧
      Calls Try.prog 22 #[v2, .agg #[.int .i64 u.kind, .bool u.yes, .int .i64 u.num, .string u.text, .slice a1 u.list.length c1, .slice a2 u.fields.length c2]] w2 (ValS W ⟨(bytesOf (zm.take lm) ++ u.ob).toArray⟩) := by
  obtain ⟨a1, c1, a2, c2, hbox, hat⟩ := h6
  obtain ⟨v2, w2, hr, hown, hb⟩ := app_ahead W.drew am lm cm zm (isRow_below hrow (Below.refl _ _).drew) hl
  have hown : Bs 5 W.heap.size w2 v2 (bytesOf (zm.take lm)) := hown
  have hb2 : Below W.heap.size W w2 := (Below.refl _ _).drew.trans hb
  rw [show (1000 * 9 ^ 7 : Nat) = 4782969000 by decide] at hob
  have hlen : (bytesOf (zm.take lm)).length ≤ 20 := by simp [bytesOf]; omega
  refine ⟨v2, w2, a1, c1, a2, c2, hr, hb2, fun W' hW => (Box.six ((hW.block b hbox.lt).trans hbox)).1, ?_⟩
  refine (oval_all u.dep u _ _ W.heap.size v2 _ w2 (Nat.le_refl _) hok (V.At.move (fun q _ hlt => ⟨hlt, hb2.block q hlt⟩) hb2.size _ (Nat.le_refl _) hat) hb2.size hown (by omega)).mono ?_
  rintro e w3 ⟨v3, rfl, hown3, hup3⟩
  exact ⟨v3, rfl, conv_bs (P := Try.prog) 5 W.heap.size w3 44 9 Try.underlying44 Try.underlying5 Try.underlying9 v3 _ hown3, hb2.trans (hup3.below hown hb2.size)⟩

theorem two_in (w : World) (cs ds : Array Value) (t : TypeId) : ∀ w', Below (w.heap.size + 2) ((w.alloc (.cells cs t)).alloc (.cells ds t)) w' →
    Below w.heap.size w w' ∧ w.heap.size + 1 < w'.heap.size ∧ Box w' w.heap.size t cs ∧ Box w' (w.heap.size + 1) t ds := by
  intro w' hb
  have hz : ((w.alloc (.cells cs t)).alloc (.cells ds t)).heap.size = w.heap.size + 2 := by simp
  have hb0 : Below w.heap.size w ((w.alloc (.cells cs t)).alloc (.cells ds t)) := ((Below.refl _ w).alloc (Nat.le_refl _) _).alloc (by simp) _
  have e1 : (w.alloc (.cells cs t)).heap.size = w.heap.size + 1 := by simp
  refine ⟨hb0.trans (hb.mono (by omega)), by have := hb.size; omega, ?_, ?_⟩
  · exact (hb.block _ (by omega)).trans ((Box.new w t cs).alloc (.cells ds t))
  · have h := Box.new (w.alloc (.cells cs t)) t ds
    rw [e1] at h
    exact (hb.block _ (by omega)).trans h

end Go.Proofs.Ytacphlceggbfcaa.ordVals
end

section
namespace Go.Proofs.Ytacphlceggbfcaa.ordVals
open Go.RowKit Go.Proofs.Ytacphlceggbfcaa.rowB Go.Proofs.Ytacphlceggbfcaa.valOrders

set_option maxHeartbeats 4000000 in
set_option maxRecDepth 100000 in
theorem walk_f1 (v o : V) (lv fv lo fo : Value) (am : Option Addr) (lm cm : Nat) (zm : List Int) (w : World) (hv : v.Is w lv fv) (ho : o.Is w lo fo) (wm : IsRow .u8 w am lm cm zm) (hf : Hid (v.few 0 = false)) :
    Calls Try.prog 5 #[.agg #[.int .i64 v.kind, .bool v.yes, .int .i64 v.num, .string v.text, lv, fv], .agg #[.int .i64 o.kind, .bool o.yes, .int .i64 o.num, .string o.text, lo, fo], .slice am lm cm] w fun e w' => e = .returned (.bool true) ∧ Below w.heap.size w w' := by
  obtain ⟨⟨a0, c0, rfl⟩, ⟨a0', c0', rfl⟩, _, _⟩ := hv.len
  obtain ⟨⟨a1, c1, rfl⟩, ⟨a1', c1', rfl⟩, _, _⟩ := ho.len
  have HS : Hid (∀ w', Below w.heap.size w w' → v.Is w' (.slice a0 v.list.length c0) (.slice a0' v.fields.length c0')) := Lib.hid (fun w' hb => hv.below hb)
  have HO : Hid (∀ w', Below w.heap.size w w' → o.Is w' (.slice a1 o.list.length c1) (.slice a1' o.fields.length c1')) := Lib.hid (fun w' hb => ho.below hb)
  have HM : Hid (∀ w', Below w.heap.size w w' → IsRow .u8 w' am lm cm zm) := Lib.hid (fun w' hb => isRow_below wm hb)
  have HX : Hid (∀ w', Below (w.heap.size + 2) ((w.alloc (.cells #[.int .i64 v.kind, .bool v.yes, .int .i64 v.num, .string v.text, .slice a0 v.list.length c0, .slice a0' v.fields.length c0'] 26)).alloc (.cells #[.int .i64 o.kind, .bool o.yes, .int .i64 o.num, .string o.text, .slice a1 o.list.length c1, .slice a1' o.fields.length c1'] 26)) w' → Below w.heap.size w w' ∧ w.heap.size + 1 < w'.heap.size ∧ Box w' w.heap.size 26 #[.int .i64 v.kind, .bool v.yes, .int .i64 v.num, .string v.text, .slice a0 v.list.length c0, .slice a0' v.fields.length c0'] ∧ Box w' (w.heap.size + 1) 26 #[.int .i64 o.kind, .bool o.yes, .int .i64 o.num, .string o.text, .slice a1 o.list.length c1, .slice a1' o.fields.length c1']) := Lib.hid (two_in w _ _ _)
  clear hv ho wm
  go_enter Try.func5, Try.ntmps5
  go_wp2_with fail
  refine (ohead_any _).mono ?_
  rintro e w1 ⟨rfl, hb1⟩
  have HB1 := Lib.hid (hb1.mono (B' := w.heap.size + 2) (by simp))
  clear hb1
  obtain ⟨hbw, _, bx0, bx1⟩ := HX.out _ HB1.out
  obtain ⟨⟨x0, x1, x2, x3, x4, x5⟩, f0, f1, f2, f3, f4, f5⟩ := bx0.six
  obtain ⟨⟨y0, y1, y2, y3, y4, y5⟩, _⟩ := bx1.six
  have hfew := few_any v _ _ w1 (HS.out _ hbw)
  rw [hf.out] at hfew
  have HFW := Lib.hid hfew
  clear hfew
  go_wp2_with fail
  refine HFW.out.mono ?_
  rintro e w2 ⟨rfl, hb⟩
  have HB2 := Lib.hid (HB1.out.trans (hb.mono (by have := (HX.out _ HB1.out).2.1; omega)))
  clear HFW hb x0 x1 x2 x3 x4 x5 y0 y1 y2 y3 y4 y5 f0 f1 f2 f3 f4 f5 bx0 bx1 hbw
  go_wp2
  go_ret
  exact ⟨rfl, (HX.out _ HB2.out).1⟩

set_option maxHeartbeats 4000000 in
set_option maxRecDepth 100000 in
theorem walk_f2 (v o : V) (lv fv lo fo : Value) (am : Option Addr) (lm cm : Nat) (zm : List Int) (w : World) (hv : v.Is w lv fv) (ho : o.Is w lo fo) (wm : IsRow .u8 w am lm cm zm) (hf : Hid (v.few 0 = true)) (hg : Hid (o.few 0 = false)) :
    Calls Try.prog 5 #[.agg #[.int .i64 v.kind, .bool v.yes, .int .i64 v.num, .string v.text, lv, fv], .agg #[.int .i64 o.kind, .bool o.yes, .int .i64 o.num, .string o.text, lo, fo], .slice am lm cm] w fun e w' => e = .returned (.bool true) ∧ Below w.heap.size w w' := by
  obtain ⟨⟨a0, c0, rfl⟩, ⟨a0', c0', rfl⟩, _, _⟩ := hv.len
  obtain ⟨⟨a1, c1, rfl⟩, ⟨a1', c1', rfl⟩, _, _⟩ := ho.len
  have HS : Hid (∀ w', Below w.heap.size w w' → v.Is w' (.slice a0 v.list.length c0) (.slice a0' v.fields.length c0')) := Lib.hid (fun w' hb => hv.below hb)
  have HO : Hid (∀ w', Below w.heap.size w w' → o.Is w' (.slice a1 o.list.length c1) (.slice a1' o.fields.length c1')) := Lib.hid (fun w' hb => ho.below hb)
  have HM : Hid (∀ w', Below w.heap.size w w' → IsRow .u8 w' am lm cm zm) := Lib.hid (fun w' hb => isRow_below wm hb)
  have HX : Hid (∀ w', Below (w.heap.size + 2) ((w.alloc (.cells #[.int .i64 v.kind, .bool v.yes, .int .i64 v.num, .string v.text, .slice a0 v.list.length c0, .slice a0' v.fields.length c0'] 26)).alloc (.cells #[.int .i64 o.kind, .bool o.yes, .int .i64 o.num, .string o.text, .slice a1 o.list.length c1, .slice a1' o.fields.length c1'] 26)) w' → Below w.heap.size w w' ∧ w.heap.size + 1 < w'.heap.size ∧ Box w' w.heap.size 26 #[.int .i64 v.kind, .bool v.yes, .int .i64 v.num, .string v.text, .slice a0 v.list.length c0, .slice a0' v.fields.length c0'] ∧ Box w' (w.heap.size + 1) 26 #[.int .i64 o.kind, .bool o.yes, .int .i64 o.num, .string o.text, .slice a1 o.list.length c1, .slice a1' o.fields.length c1']) := Lib.hid (two_in w _ _ _)
  clear hv ho wm
  go_enter Try.func5, Try.ntmps5
  go_wp2_with fail
  refine (ohead_any _).mono ?_
  rintro e w1 ⟨rfl, hb1⟩
  have HB1 := Lib.hid (hb1.mono (B' := w.heap.size + 2) (by simp))
  clear hb1
  obtain ⟨hbw, _, bx0, bx1⟩ := HX.out _ HB1.out
  obtain ⟨⟨x0, x1, x2, x3, x4, x5⟩, f0, f1, f2, f3, f4, f5⟩ := bx0.six
  obtain ⟨⟨y0, y1, y2, y3, y4, y5⟩, _⟩ := bx1.six
  have hfew := few_any v _ _ w1 (HS.out _ hbw)
  rw [hf.out] at hfew
  have HFW := Lib.hid hfew
  clear hfew
  go_wp2_with fail
  refine HFW.out.mono ?_
  rintro e w2 ⟨rfl, hb⟩
  have HB2 := Lib.hid (HB1.out.trans (hb.mono (by have := (HX.out _ HB1.out).2.1; omega)))
  clear HFW hb x0 x1 x2 x3 x4 x5 y0 y1 y2 y3 y4 y5 f0 f1 f2 f3 f4 f5 bx0 bx1 hbw
  obtain ⟨hbw, _, bx0, bx1⟩ := HX.out _ HB2.out
  obtain ⟨⟨x0, x1, x2, x3, x4, x5⟩, f0, f1, f2, f3, f4, f5⟩ := bx0.six
  obtain ⟨⟨y0, y1, y2, y3, y4, y5⟩, _⟩ := bx1.six
  have hfew := few_any o _ _ w2 (HO.out _ hbw)
  rw [hg.out] at hfew
  have HFW := Lib.hid hfew
  clear hfew
  go_wp2_with fail
  refine HFW.out.mono ?_
  rintro e w3 ⟨rfl, hb⟩
  have HB3 := Lib.hid (HB2.out.trans (hb.mono (by have := (HX.out _ HB2.out).2.1; omega)))
  clear HFW hb x0 x1 x2 x3 x4 x5 y0 y1 y2 y3 y4 y5 f0 f1 f2 f3 f4 f5 bx0 bx1 hbw
  go_wp2
  go_ret
  exact ⟨rfl, (HX.out _ HB3.out).1⟩

set_option maxHeartbeats 4000000 in
set_option maxRecDepth 100000 in
theorem walk_f3 (v o : V) (lv fv lo fo : Value) (am : Option Addr) (lm cm : Nat) (zm : List Int) (w : World) (hv : v.Is w lv fv) (ho : o.Is w lo fo) (wm : IsRow .u8 w am lm cm zm) (hf : Hid (v.few 0 = true)) (hg : Hid (o.few 0 = true)) (h20 : (20 : Int) < (lm : Int)) :
    Calls Try.prog 5 #[.agg #[.int .i64 v.kind, .bool v.yes, .int .i64 v.num, .string v.text, lv, fv], .agg #[.int .i64 o.kind, .bool o.yes, .int .i64 o.num, .string o.text, lo, fo], .slice am lm cm] w fun e w' => e = .returned (.bool true) ∧ Below w.heap.size w w' := by
  obtain ⟨⟨a0, c0, rfl⟩, ⟨a0', c0', rfl⟩, _, _⟩ := hv.len
  obtain ⟨⟨a1, c1, rfl⟩, ⟨a1', c1', rfl⟩, _, _⟩ := ho.len
  have HS : Hid (∀ w', Below w.heap.size w w' → v.Is w' (.slice a0 v.list.length c0) (.slice a0' v.fields.length c0')) := Lib.hid (fun w' hb => hv.below hb)
  have HO : Hid (∀ w', Below w.heap.size w w' → o.Is w' (.slice a1 o.list.length c1) (.slice a1' o.fields.length c1')) := Lib.hid (fun w' hb => ho.below hb)
  have HM : Hid (∀ w', Below w.heap.size w w' → IsRow .u8 w' am lm cm zm) := Lib.hid (fun w' hb => isRow_below wm hb)
  have HX : Hid (∀ w', Below (w.heap.size + 2) ((w.alloc (.cells #[.int .i64 v.kind, .bool v.yes, .int .i64 v.num, .string v.text, .slice a0 v.list.length c0, .slice a0' v.fields.length c0'] 26)).alloc (.cells #[.int .i64 o.kind, .bool o.yes, .int .i64 o.num, .string o.text, .slice a1 o.list.length c1, .slice a1' o.fields.length c1'] 26)) w' → Below w.heap.size w w' ∧ w.heap.size + 1 < w'.heap.size ∧ Box w' w.heap.size 26 #[.int .i64 v.kind, .bool v.yes, .int .i64 v.num, .string v.text, .slice a0 v.list.length c0, .slice a0' v.fields.length c0'] ∧ Box w' (w.heap.size + 1) 26 #[.int .i64 o.kind, .bool o.yes, .int .i64 o.num, .string o.text, .slice a1 o.list.length c1, .slice a1' o.fields.length c1']) := Lib.hid (two_in w _ _ _)
  clear hv ho wm
  go_enter Try.func5, Try.ntmps5
  go_wp2_with fail
  refine (ohead_any _).mono ?_
  rintro e w1 ⟨rfl, hb1⟩
  have HB1 := Lib.hid (hb1.mono (B' := w.heap.size + 2) (by simp))
  clear hb1
  obtain ⟨hbw, _, bx0, bx1⟩ := HX.out _ HB1.out
  obtain ⟨⟨x0, x1, x2, x3, x4, x5⟩, f0, f1, f2, f3, f4, f5⟩ := bx0.six
  obtain ⟨⟨y0, y1, y2, y3, y4, y5⟩, _⟩ := bx1.six
  have hfew := few_any v _ _ w1 (HS.out _ hbw)
  rw [hf.out] at hfew
  have HFW := Lib.hid hfew
  clear hfew
  go_wp2_with fail
  refine HFW.out.mono ?_
  rintro e w2 ⟨rfl, hb⟩
  have HB2 := Lib.hid (HB1.out.trans (hb.mono (by have := (HX.out _ HB1.out).2.1; omega)))
  clear HFW hb x0 x1 x2 x3 x4 x5 y0 y1 y2 y3 y4 y5 f0 f1 f2 f3 f4 f5 bx0 bx1 hbw
  obtain ⟨hbw, _, bx0, bx1⟩ := HX.out _ HB2.out
  obtain ⟨⟨x0, x1, x2, x3, x4, x5⟩, f0, f1, f2, f3, f4, f5⟩ := bx0.six
  obtain ⟨⟨y0, y1, y2, y3, y4, y5⟩, _⟩ := bx1.six
  have hfew := few_any o _ _ w2 (HO.out _ hbw)
  rw [hg.out] at hfew
  have HFW := Lib.hid hfew
  clear hfew
  go_wp2_with fail
  refine HFW.out.mono ?_
  rintro e w3 ⟨rfl, hb⟩
  have HB3 := Lib.hid (HB2.out.trans (hb.mono (by have := (HX.out _ HB2.out).2.1; omega)))
  clear HFW hb x0 x1 x2 x3 x4 x5 y0 y1 y2 y3 y4 y5 f0 f1 f2 f3 f4 f5 bx0 bx1 hbw
  go_wp2
  go_ret
  exact ⟨rfl, (HX.out _ HB3.out).1⟩

section
attribute [-go_sem] Builtin.append_
def St (w W : World) (u z : V) : Prop := Below w.heap.size w W ∧ In6 W (w.heap.size + 2) w.heap.size u ∧ In6 W (w.heap.size + 2) (w.heap.size + 1) z
theorem St.below {w W W' : World} {u z : V} (h : St w W u z) (hb : Below W.heap.size W W') : St w W' u z := ⟨h.1.trans (hb.mono h.1.size), h.2.1.below hb, h.2.2.below hb⟩

theorem texts_ord (A U Z : L8) (X : Int) (h : cmpL U Z = X) (hp : X ≠ 0 → ¬ (A ++ Z) <+: (A ++ U) ∧ ¬ (A ++ U) <+: (A ++ Z)) (w : World) :
    Calls Try.prog 25 #[.string ⟨(A ++ U).toArray⟩, .string ⟨(A ++ Z).toArray⟩] w (fun e w' => e = .returned (.int .i64 X) ∧ w = w') ∧
    Calls Try.prog 24 #[.string ⟨(A ++ U).toArray⟩, .string ⟨A.toArray⟩] w (fun e w' => e = .returned (.bool true) ∧ w = w') ∧
    (X ≠ 0 → Calls Try.prog 24 #[.string ⟨(A ++ U).toArray⟩, .string ⟨(A ++ Z).toArray⟩] w (fun e w' => e = .returned (.bool false) ∧ w = w')) ∧
    (X ≠ 0 → Calls Try.prog 24 #[.string ⟨(A ++ Z).toArray⟩, .string ⟨(A ++ U).toArray⟩] w (fun e w' => e = .returned (.bool false) ∧ w = w')) := by
  have h1 := by_any ⟨(A ++ U).toArray⟩ ⟨(A ++ Z).toArray⟩ w
  have h2 := begins_any ⟨(A ++ U).toArray⟩ ⟨A.toArray⟩ w
  have h3 := begins_any ⟨(A ++ U).toArray⟩ ⟨(A ++ Z).toArray⟩ w
  have h4 := begins_any ⟨(A ++ Z).toArray⟩ ⟨(A ++ U).toArray⟩ w
  simp only at h1 h2 h3 h4
  rw [cmpL_append_left, h] at h1
  rw [show begB (A ++ U) A = true from decide_eq_true (List.prefix_append A U)] at h2
  refine ⟨h1, h2, fun hx => ?_, fun hx => ?_⟩
  · rw [show begB (A ++ U) (A ++ Z) = false from decide_eq_false (hp hx).1] at h3
    exact h3
  · rw [show begB (A ++ Z) (A ++ U) = false from decide_eq_false (hp hx).2] at h4
    exact h4

/-- of unlike values none is the other one's beginning -/
theorem no_pre {u z : V} (pu : u.pl) (pz : z.pl) (nu : u.n64) (nz : z.n64) (A : L8) (h : u.cmp z ≠ 0) : ¬ (A ++ z.ob) <+: (A ++ u.ob) ∧ ¬ (A ++ u.ob) <+: (A ++ z.ob) := by
  constructor
  · rintro ⟨t, ht⟩
    rw [List.append_assoc] at ht
    have e := List.append_cancel_left ht
    have k := ob_cmp u.dep u z [] t (Nat.le_refl _) pu pz nu nz
    rw [List.append_nil, e, cmpL_self] at k
    unfold thn at k
    rw [if_pos h] at k
    exact h k.symm
  · rintro ⟨t, ht⟩
    rw [List.append_assoc] at ht
    have e := List.append_cancel_left ht
    have k := ob_cmp u.dep u z t [] (Nat.le_refl _) pu pz nu nz
    rw [List.append_nil, e, cmpL_self] at k
    unfold thn at k
    rw [if_pos h] at k
    exact h k.symm

set_option maxHeartbeats 4000000 in
set_option maxRecDepth 100000 in
theorem walk_main (v o : V) (lv fv lo fo : Value) (am : Option Addr) (lm cm : Nat) (zm : List Int) (w : World) (hv : v.Is w lv fv) (ho : o.Is w lo fo) (wm : IsRow .u8 w am lm cm zm) (nv : v.n64) (no : o.n64) (hf : Hid (v.few 0 = true)) (hg : Hid (o.few 0 = true)) (hlm : lm ≤ 20) :
    Calls Try.prog 5 #[.agg #[.int .i64 v.kind, .bool v.yes, .int .i64 v.num, .string v.text, lv, fv], .agg #[.int .i64 o.kind, .bool o.yes, .int .i64 o.num, .string o.text, lo, fo], .slice am lm cm] w fun e w' => e = .returned (.bool true) ∧ Below w.heap.size w w' := by
  obtain ⟨⟨a0, c0, rfl⟩, ⟨a0', c0', rfl⟩, _, _⟩ := hv.len
  obtain ⟨⟨a1, c1, rfl⟩, ⟨a1', c1', rfl⟩, _, _⟩ := ho.len
  have HS : Hid (∀ w', Below w.heap.size w w' → v.Is w' (.slice a0 v.list.length c0) (.slice a0' v.fields.length c0')) := Lib.hid (fun w' hb => hv.below hb)
  have HO : Hid (∀ w', Below w.heap.size w w' → o.Is w' (.slice a1 o.list.length c1) (.slice a1' o.fields.length c1')) := Lib.hid (fun w' hb => ho.below hb)
  have HM : Hid (∀ w', Below w.heap.size w w' → IsRow .u8 w' am lm cm zm) := Lib.hid (fun w' hb => isRow_below wm hb)
  have HX : Hid (∀ w', Below (w.heap.size + 2) ((w.alloc (.cells #[.int .i64 v.kind, .bool v.yes, .int .i64 v.num, .string v.text, .slice a0 v.list.length c0, .slice a0' v.fields.length c0'] 26)).alloc (.cells #[.int .i64 o.kind, .bool o.yes, .int .i64 o.num, .string o.text, .slice a1 o.list.length c1, .slice a1' o.fields.length c1'] 26)) w' → Below w.heap.size w w' ∧ w.heap.size + 1 < w'.heap.size ∧ Box w' w.heap.size 26 #[.int .i64 v.kind, .bool v.yes, .int .i64 v.num, .string v.text, .slice a0 v.list.length c0, .slice a0' v.fields.length c0'] ∧ Box w' (w.heap.size + 1) 26 #[.int .i64 o.kind, .bool o.yes, .int .i64 o.num, .string o.text, .slice a1 o.list.length c1, .slice a1' o.fields.length c1']) := Lib.hid (two_in w _ _ _)
  clear hv ho wm
  go_enter Try.func5, Try.ntmps5
  go_wp2_with fail
  refine (ohead_any _).mono ?_
  rintro e w1 ⟨rfl, hb1⟩
  have HB1 := Lib.hid (hb1.mono (B' := w.heap.size + 2) (by simp))
  clear hb1
  have h20 : ¬ (20 : Int) < (lm : Int) := by omega
  obtain ⟨hbw, _, bx0, bx1⟩ := HX.out _ HB1.out
  obtain ⟨⟨x0, x1, x2, x3, x4, x5⟩, f0, f1, f2, f3, f4, f5⟩ := bx0.six
  obtain ⟨⟨y0, y1, y2, y3, y4, y5⟩, _⟩ := bx1.six
  have hfew := few_any v _ _ w1 (HS.out _ hbw)
  rw [hf.out] at hfew
  have HFW := Lib.hid hfew
  clear hfew
  go_wp2_with fail
  refine HFW.out.mono ?_
  rintro e w2 ⟨rfl, hb⟩
  have HB2 := Lib.hid (HB1.out.trans (hb.mono (by have := (HX.out _ HB1.out).2.1; omega)))
  clear HFW hb x0 x1 x2 x3 x4 x5 y0 y1 y2 y3 y4 y5 f0 f1 f2 f3 f4 f5 bx0 bx1 hbw
  obtain ⟨hbw, _, bx0, bx1⟩ := HX.out _ HB2.out
  obtain ⟨⟨x0, x1, x2, x3, x4, x5⟩, f0, f1, f2, f3, f4, f5⟩ := bx0.six
  obtain ⟨⟨y0, y1, y2, y3, y4, y5⟩, _⟩ := bx1.six
  have hfew := few_any o _ _ w2 (HO.out _ hbw)
  rw [hg.out] at hfew
  have HFW := Lib.hid hfew
  clear hfew
  go_wp2_with fail
  refine HFW.out.mono ?_
  rintro e w3 ⟨rfl, hb⟩
  have HB3 := Lib.hid (HB2.out.trans (hb.mono (by have := (HX.out _ HB2.out).2.1; omega)))
  clear HFW hb x0 x1 x2 x3 x4 x5 y0 y1 y2 y3 y4 y5 f0 f1 f2 f3 f4 f5 bx0 bx1 hbw
  have hRU := fun W h => lright_any v 0 hf.out (.slice a0 v.list.length c0) (.slice a0' v.fields.length c0') W h
  have hRZ := fun W h => lright_any o 0 hg.out (.slice a1 o.list.length c1) (.slice a1' o.fields.length c1') W h
  have pu := rv_pl v.dep v (Nat.le_refl _)
  have pz := rv_pl o.dep o (Nat.le_refl _)
  have nu := rv_n64 v.dep v (Nat.le_refl _) nv
  have nz := rv_n64 o.dep o (Nat.le_refl _) no
  have lu := few_ob 7 v.rv 0 (by omega) (rv_few v.dep v 0 (Nat.le_refl _) hf.out)
  have lz := few_ob 7 o.rv 0 (by omega) (rv_few o.dep o 0 (Nat.le_refl _) hg.out)
  generalize v.rv = u at hRU pu nu lu
  generalize o.rv = z at hRZ pz nz lz
  have HRU := Lib.hid hRU
  have HRZ := Lib.hid hRZ
  have HKU := Lib.hid (And.intro (pl_okk u.dep u (Nat.le_refl _) pu nu) lu)
  have HKZ := Lib.hid (And.intro (pl_okk z.dep z (Nat.le_refl _) pz nz) lz)
  obtain ⟨X, HXX⟩ : ∃ X, Hid (u.cmp z = X ∧ Three X) := ⟨_, Lib.hid ⟨rfl, three_all u z⟩⟩
  obtain ⟨A, HA⟩ : ∃ A, Hid (A = bytesOf (zm.take lm)) := ⟨_, Lib.hid rfl⟩
  have HTX := Lib.hid (texts_ord A u.ob z.ob X (by have h := ob_cmp u.dep u z [] [] (Nat.le_refl _) pu pz nu nz; rw [List.append_nil, List.append_nil] at h; rw [h, HXX.out.1]; unfold thn; by_cases hx : X = 0 <;> simp [hx, cmpL_self]) (fun hx => no_pre pu pz nu nz A (by rw [HXX.out.1]; exact hx)))
  clear hRU hRZ hf hg pu pz nu nz lu lz nv no
  have HBW0 := Lib.hid (HX.out _ HB3.out)
  clear HB1 HB2
  go_upto_region 5 with fail
  go_cut [25] (fun _ wx => Hid (Below w.heap.size w wx ∧ w.heap.size + 1 < wx.heap.size ∧ In6 wx (w.heap.size + 2) w.heap.size u ∧ Box wx (w.heap.size + 1) 26 #[.int .i64 o.kind, .bool o.yes, .int .i64 o.num, .string o.text, .slice a1 o.list.length c1, .slice a1' o.fields.length c1']))
  case first =>
    obtain ⟨hbw, hsz, s0, s1⟩ := HBW0.out
    obtain ⟨⟨x0, x1, x2, x3, x4, x5⟩, f0, f1, f2, f3, f4, f5⟩ := s0.six
    have HBOX := Lib.hid s0
    have HS1 := Lib.hid s1
    have HRi := Lib.hid (HRU.out _ (HS.out _ hbw))
    have HBW := Lib.hid hbw
    clear s0 s1 hbw
    go_wp2_with fail
    refine HRi.out.mono ?_
    rintro e w5 ⟨lu, fu, rfl, hat, hb5⟩
    obtain ⟨⟨ax, cx, rfl⟩, ⟨ay, cy, rfl⟩, _, _⟩ := hat.is.len
    have HAT := Lib.hid hat
    have HB5 := Lib.hid hb5
    have hz5 := hb5.size
    clear hat hb5 HRi x0 x1 x2 x3 x4 x5 f0 f1 f2 f3 f4 f5
    have HBX5 := Lib.hid ((HB5.out.block _ HBOX.out.lt).trans HBOX.out)
    obtain ⟨⟨x0, x1, x2, x3, x4, x5⟩, f0, f1, f2, f3, f4, f5⟩ := Box.six HBX5.out
    go_wp2_with fail
    go_meet
    refine Lib.hid ⟨st6_below (HBW.out.trans (HB5.out.mono HBW.out.size)) (by omega) _ _ _ _ _ _, ?_, in6_new rfl HBX5.out (by omega) (by omega) u ax cx ay cy HAT.out, box_keep ((HB5.out.block _ HS1.out.lt).trans HS1.out) (by omega) (st6_far _ _ _ _ _ _)⟩
    rw [show ∀ (W : World) (b : Nat) (c0 c1 c2 c3 c4 c5 : Value), ((((((W.setCell ⟨b, 0, none⟩ c0).setCell ⟨b, 1, none⟩ c1).setCell ⟨b, 2, none⟩ c2).setCell ⟨b, 3, none⟩ c3).setCell ⟨b, 4, none⟩ c4).setCell ⟨b, 5, none⟩ c5).heap.size = W.heap.size from fun W b c0 c1 c2 c3 c4 c5 => st6_size c0 c1 c2 c3 c4 c5]
    omega
  case rest =>
    have HCUT1 := hcut
    clear hcut
    go_upto_region 6 with fail
    go_cut [25] (fun _ wx => Hid (Below w.heap.size w wx ∧ w.heap.size + 1 < wx.heap.size ∧ In6 wx (w.heap.size + 2) w.heap.size u ∧ In6 wx (w.heap.size + 2) (w.heap.size + 1) z))
    case first =>
      obtain ⟨hbw, hsz, s0, s1⟩ := HCUT1.out
      obtain ⟨⟨y0, y1, y2, y3, y4, y5⟩, f0, f1, f2, f3, f4, f5⟩ := s1.six
      have HBOX := Lib.hid s1
      have HS0 := Lib.hid s0
      have HRi := Lib.hid (HRZ.out _ (HO.out _ hbw))
      have HBW := Lib.hid hbw
      clear s0 s1 hbw
      go_wp2_with fail
      refine HRi.out.mono ?_
      rintro e w5 ⟨lu, fu, rfl, hat, hb5⟩
      obtain ⟨⟨ax, cx, rfl⟩, ⟨ay, cy, rfl⟩, _, _⟩ := hat.is.len
      have HAT := Lib.hid hat
      have HB5 := Lib.hid hb5
      have hz5 := hb5.size
      clear hat hb5 HRi y0 y1 y2 y3 y4 y5 f0 f1 f2 f3 f4 f5
      have HBX5 := Lib.hid ((HB5.out.block _ HBOX.out.lt).trans HBOX.out)
      obtain ⟨⟨y0, y1, y2, y3, y4, y5⟩, f0, f1, f2, f3, f4, f5⟩ := Box.six HBX5.out
      go_wp2_with fail
      go_meet
      refine Lib.hid ⟨st6_below (HBW.out.trans (HB5.out.mono HBW.out.size)) (by omega) _ _ _ _ _ _, ?_, In6.keep (HS0.out.below HB5.out) (by omega) (by omega) (st6_far _ _ _ _ _ _) (Nat.le_of_eq (st6_size _ _ _ _ _ _).symm), in6_new rfl HBX5.out (by omega) (by omega) z ax cx ay cy HAT.out⟩
      rw [show ∀ (W : World) (b : Nat) (c0 c1 c2 c3 c4 c5 : Value), ((((((W.setCell ⟨b, 0, none⟩ c0).setCell ⟨b, 1, none⟩ c1).setCell ⟨b, 2, none⟩ c2).setCell ⟨b, 3, none⟩ c3).setCell ⟨b, 4, none⟩ c4).setCell ⟨b, 5, none⟩ c5).heap.size = W.heap.size from fun W b c0 c1 c2 c3 c4 c5 => st6_size c0 c1 c2 c3 c4 c5]
      omega
    case rest =>
      have HCUT2 := hcut
      clear hcut
      clear HBW0 HX HS HO HRU HRZ HCUT1
      have HST : Hid (St w wc u z) := Lib.hid ⟨HCUT2.out.1, HCUT2.out.2.2⟩
      clear HCUT2
      go_upto_region 7 with fail
      go_cut [7] (fun r wx => r = .string ⟨(A ++ u.ob).toArray⟩ ∧ Hid (St w wx u z))
      case first =>
        obtain ⟨v2, w2, p1, q1, p2, q2, hrun, hb2, hS, hV⟩ := pre7 _ (w.heap.size + 2) w.heap.size u HST.out.2.1 am lm cm zm (HM.out _ HST.out.1) hlm HKU.out.1 HKU.out.2
        rw [← HA.out] at hV
        have HV := Lib.hid hV
        have HSS := Lib.hid hS
        obtain ⟨e0, e1, e2, e3, e4, e5⟩ := HSS.out w2 hb2
        obtain ⟨d0, d1, d2, d3, d4, d5⟩ := HSS.out _ (Below.refl _ wc)
        have hltb : w.heap.size < wc.heap.size := World.block_lt_of_cell? _ _ d0
        have hrun2 : (Builtin.append_ #[44, 44] 44 #[.slice (some ⟨wc.heap.size, 0, none⟩) 0 0, .slice am lm cm]).run Try.prog (wc.alloc (.cells #[] 5)).drew = .ok v2 w2 := hrun
        clear hV hS hb2
        go_region_with ((go_at_call 22; refine HV.out.mono ?_; rintro e w7 ⟨v3, rfl, cv3, hb3⟩))
        all_goals
          go_wp2_with fail
          go_meet
          exact ⟨rfl, Lib.hid (HST.out.below hb3)⟩
      case rest =>
        obtain ⟨rfl, HST'⟩ := hcut
        clear HST
        have HST := HST'
        clear HST'
        go_upto_region 8 with fail
        go_cut [8] (fun r wx => r = .string ⟨(A ++ z.ob).toArray⟩ ∧ Hid (St w wx u z))
        case first =>
          obtain ⟨v2, w2, p1, q1, p2, q2, hrun, hb2, hS, hV⟩ := pre7 _ (w.heap.size + 2) (w.heap.size + 1) z HST.out.2.2 am lm cm zm (HM.out _ HST.out.1) hlm HKZ.out.1 HKZ.out.2
          rw [← HA.out] at hV
          have HV := Lib.hid hV
          have HSS := Lib.hid hS
          obtain ⟨e0, e1, e2, e3, e4, e5⟩ := HSS.out w2 hb2
          obtain ⟨d0, d1, d2, d3, d4, d5⟩ := HSS.out _ (Below.refl _ wc)
          have hltb : w.heap.size + 1 < wc.heap.size := World.block_lt_of_cell? _ _ d0
          have hrun2 : (Builtin.append_ #[44, 44] 44 #[.slice (some ⟨wc.heap.size, 0, none⟩) 0 0, .slice am lm cm]).run Try.prog (wc.alloc (.cells #[] 5)).drew = .ok v2 w2 := hrun
          clear hV hS hb2
          go_region_with ((go_at_call 22; refine HV.out.mono ?_; rintro e w7 ⟨v3, rfl, cv3, hb3⟩))
          all_goals
            go_wp2_with fail
            go_meet
            exact ⟨rfl, Lib.hid (HST.out.below hb3)⟩
        case rest =>
          obtain ⟨rfl, HST'⟩ := hcut
          clear HST
          have HST := HST'
          clear HST'
          obtain ⟨ua, uc, ua', uc', ⟨u0, u1, u2, u3, u4, u5⟩, isu⟩ := (HST.out.2.1).six
          obtain ⟨za, zc, za', zc', ⟨z0, z1, z2, z3, z4, z5⟩, isz⟩ := (HST.out.2.2).six
          have hc := cmp_any u z _ _ _ _ _ isu isz
          rw [HXX.out.1] at hc
          have HC := Lib.hid hc
          clear hc
          go_wp2_with fail
          refine HC.out.mono ?_
          rintro e w9 ⟨rfl, hb⟩
          have HST' := Lib.hid (HST.out.below hb)
          clear HC hb HST u0 u1 u2 u3 u4 u5 z0 z1 z2 z3 z4 z5 isu isz
          have HST := HST'
          clear HST'
          have HSG := Lib.hid (sign_any X HXX.out.2 w9)
          go_wp2_with fail
          refine HSG.out.mono ?_
          rintro e wq ⟨rfl, rfl⟩
          clear HSG
          have cva := conv_b (P := Try.prog) w9 44 9 5 Try.underlying44 Try.underlying5 Try.underlying9 am lm cm zm (HM.out _ HST.out.1)
          rw [← HA.out] at cva
          go_wp2_with fail
          refine (HTX.out w9).2.1.mono ?_
          rintro e wq ⟨rfl, rfl⟩
          clear cva
          go_wp2_with fail
          refine (HTX.out w9).1.mono ?_
          rintro e wq ⟨rfl, rfl⟩
          by_cases hx : X = 0
          · subst hx
            go_wp2
            go_ret
            exact ⟨rfl, HST.out.1⟩
          · have g1 : (X == 0) = false := by rw [beq_eq_false_iff_ne]; exact hx
            have HB3' := Lib.hid ((HTX.out w9).2.2.1 hx)
            have HB4' := Lib.hid ((HTX.out w9).2.2.2 hx)
            clear hx
            go_wp2_with fail
            refine HB3'.out.mono ?_
            rintro e wq ⟨rfl, rfl⟩
            go_wp2_with fail
            refine HB4'.out.mono ?_
            rintro e wq ⟨rfl, rfl⟩
            go_wp2
            go_ret
            exact ⟨rfl, HST.out.1⟩
end

theorem walk {w : World} (v : V) (lv fv : Value) (hv : v.Is w lv fv) (nv : v.n64) (o : V) (lo fo : Value) (ho : o.Is w lo fo) (no : o.n64) (am : Option Addr) (lm cm : Nat) (zm : List Int) (wm : IsRow .u8 w am lm cm zm) :
    Calls Try.prog 5 #[.agg #[.int .i64 v.kind, .bool v.yes, .int .i64 v.num, .string v.text, lv, fv], .agg #[.int .i64 o.kind, .bool o.yes, .int .i64 o.num, .string o.text, lo, fo], .slice am lm cm] w fun e w' => e = .returned (.bool true) ∧ Below w.heap.size w w' := by
  cases hf : v.few 0
  · exact walk_f1 v o _ _ _ _ am lm cm zm w hv ho wm (Lib.hid hf)
  · cases hg : o.few 0
    · exact walk_f2 v o _ _ _ _ am lm cm zm w hv ho wm (Lib.hid hf) (Lib.hid hg)
    · by_cases h : lm ≤ 20
      · exact walk_main v o _ _ _ _ am lm cm zm w hv ho wm nv no (Lib.hid hf) (Lib.hid hg) h
      · exact walk_f3 v o _ _ _ _ am lm cm zm w hv ho wm (Lib.hid hf) (Lib.hid hg) (by omega)

end Go.Proofs.Ytacphlceggbfcaa.ordVals
end

section
namespace Go.Proofs.Ytacphlceggbfcaa
open Go.ChangeShapes Go.WideShapes Go.ChangeAt Go.RowKit Go.Deep Go.Joins

theorem val_arg {H : Type} {enc : TypeId × Value → H} {W : World} {base : Nat} {sp : Nat → Bool} {held : Bool} {v : Value} {d : DataW H} {ps : List MemPlace}
    (h : DataW.Trod enc Try.prog W base sp held 26 v d ps) :
    ∃ (x : V) (lv fv : Value), v = .agg #[.int .i64 x.kind, .bool x.yes, .int .i64 x.num, .string x.text, lv, fv] ∧ x.Is W lv fv ∧ x.n64 := by
  obtain ⟨fuel, hf⟩ := h
  obtain ⟨x, lv, fv, hc, h1, h2, _⟩ := val_came hf
  refine ⟨x, lv, fv, ?_, h1, h2⟩
  cases v with
  | agg cs =>
    have hc : cs.toList = x.cells lv fv := by simpa [Value.cells] using hc
    rw [show cs = (x.cells lv fv).toArray by rw [← hc]]
    rfl
  | _ => simp [Value.cells, V.cells] at hc

end Go.Proofs.Ytacphlceggbfcaa
end
end

section
namespace Go.Proofs.Ytacphlceggbfcaa.bsG
open Go.RowKit

/-- nothing of a row's cells is frozen -/
def Thawed (n : Nat) (fz : Nat × Nat) : Prop := n ≤ fz.1 ∨ fz.2 = 0

def rowG (w : World) (base : Nat) (e : TypeId) (size : Nat) (v : Value) (n : Nat) (xs : List Value) : Prop :=
  xs.length = n * size ∧
  ((v = .slice none 0 0 ∧ n = 0) ∨
   ∃ g cap cur fz, v = .slice (some ⟨g, 0, none⟩) n cap ∧ base ≤ g ∧ w.heap[g]? = some (.cells cur e fz) ∧ Thawed (cap * size) fz ∧ n ≤ cap ∧ cap ≤ maxLen ∧ cur.size = cap * size ∧ cur.toList.take (n * size) = xs)

section
variable {w : World} {base : Nat} {e : TypeId} {size : Nat} {v : Value} {n : Nat} {xs : List Value}
theorem rowG_of (h : w.ownsRow base e size v n xs) : rowG w base e size v n xs := by
  refine ⟨h.1, ?_⟩
  rcases h.2 with hn | ⟨g, cap, cur, hv, hb, hg, rest⟩
  · exact .inl hn
  · exact .inr ⟨g, cap, cur, (0, 0), hv, hb, hg, .inr rfl, rest⟩
theorem rowG.lt (h : rowG w base e size v n xs) : ∀ k, v.ownBlock = some k → base ≤ k ∧ k < w.heap.size := by
  intro k hk
  rcases h.2 with ⟨rfl, _⟩ | ⟨g, cap, cur, fz, rfl, hb, hg, _⟩
  · simp [Value.ownBlock] at hk
  · simp [Value.ownBlock] at hk
    subst hk
    exact ⟨hb, (Array.getElem?_eq_some_iff.1 hg).1⟩
theorem rowG.kept {w' : World} {row : Option Nat} (h : rowG w base e size v n xs) (hg : w.grownBy w' row) (hne : v.ownBlock = none ∨ v.ownBlock ≠ row) : rowG w' base e size v n xs := by
  refine ⟨h.1, ?_⟩
  rcases h.2 with hn | ⟨g, cap, cur, fz, rfl, hb, hgg, rest⟩
  · exact .inl hn
  · refine .inr ⟨g, cap, cur, fz, rfl, hb, ?_, rest⟩
    rw [hg.block g (Array.getElem?_eq_some_iff.1 hgg).1 (by simpa [Value.ownBlock] using hne)]
    exact hgg
theorem rowG.cells (h : rowG w base e size v n xs) {g : Nat} (hg : v.ownBlock = some g) : ∀ j u, xs[j]? = some u → w.cell? ((⟨g, 0, none⟩ : Addr).add j) = some u := by
  intro j u hu
  rcases h.2 with ⟨rfl, _⟩ | ⟨g', cap, cur, fz, rfl, _, hgg, _, _, _, _, htake⟩
  · simp [Value.ownBlock] at hg
  · simp [Value.ownBlock] at hg
    subst hg
    have hadd : (⟨g', 0, none⟩ : Addr).add j = ⟨g', j, none⟩ := by unfold Addr.add; split <;> simp_all
    rw [hadd, cell_of_row w g' j cur e fz hgg]
    rw [← htake, List.getElem?_take] at hu
    split at hu
    · simpa using hu
    · cases hu
theorem rowG.alloc (h : rowG w base e size v n xs) (o : Obj) : rowG (w.alloc o) base e size v n xs :=
  h.kept (World.grownBy_alloc w o none) (by cases hv : v.ownBlock <;> simp)
end

theorem run_storeCells_atG (P : Program) (g o : Nat) (t : TypeId) (fz : Nat × Nat) : ∀ (vs : List Value) (i : Nat) (cur : Array Value) (w : World), w.heap[g]? = some (.cells cur t fz) → Thawed cur.size fz → o + i + vs.length ≤ cur.size → (∀ v ∈ vs, v.oneCell' = true) →
    (storeCells ⟨g, o, none⟩ vs i).run P w = .ok () (w.setRow g (cur.toList.take (o + i) ++ vs ++ cur.toList.drop (o + i + vs.length)).toArray)
  | [], i, cur, w, hg, _, _, _ => by
    simp only [storeCells, List.append_nil, List.length_nil, Nat.add_zero, List.take_append_drop, Array.toArray_toList]
    rw [setRow_self w g cur t fz hg]
    rfl
  | v :: rest, i, cur, w, hg, hfz, hl, h1 => by
    have hi : o + i < cur.size := by simp at hl; omega
    have hadd : (⟨g, o, none⟩ : Addr).add i = ⟨g, o + i, none⟩ := by unfold Addr.add; split <;> simp_all
    have hcell : w.cell? ⟨g, o + i, none⟩ = some cur[o + i] := by simp [World.cell?, hg, hi]
    have hfro : w.frozen? ⟨g, o + i, none⟩ = false := by
      obtain ⟨lo, hi'⟩ := fz
      unfold Thawed at hfz
      simp only [World.frozen?, hg, Bool.and_eq_false_iff, decide_eq_false_iff_not]
      simp only at hfz
      omega
    have hst : (store ((⟨g, o, none⟩ : Addr).add i) v).run P w = .ok () (w.setRow g (cur.setIfInBounds (o + i) v)) := by
      rw [hadd, run_store P w _ v _ (h1 v (by simp)), hcell]
      simp [hfro, setCell_eq_setRow w g (o + i) cur t fz v hg]
    have ih := run_storeCells_atG P g o t fz rest (i + 1) (cur.setIfInBounds (o + i) v) (w.setRow g (cur.setIfInBounds (o + i) v)) (setRow_heap w g cur _ t _ hg) (by simpa using hfz) (by simp at hl ⊢; omega) (fun x hx => h1 x (by simp [hx]))
    simp only [storeCells, Sem.run_bind, hst, Result.andThen_ok, ih, setRow_setRow]
    congr 3
    have e := list_seg_step cur.toList (o + i) v rest (by simp at hl ⊢; omega)
    simpa [Array.toList_setIfInBounds, Nat.add_assoc] using e

theorem run_append_roomG {P : Program} (w : World) (t ty e : TypeId) (i : TypeInfo) (ht : P.underlying t = some (.slice e)) (hi : P.info? e = some i)
    (g sLen sCap : Nat) (cur : Array Value) (fz : Nat × Nat) (hg : w.heap[g]? = some (.cells cur e fz)) (hfz : Thawed cur.size fz)
    (a : Addr) (m c : Nat) (news : List Value) (hl : news.length = m * i.size) (hnews : ∀ j u, news[j]? = some u → w.cell? (a.add j) = some u) (h1 : ∀ u ∈ news, u.oneCell' = true)
    (hroom : sLen + m ≤ sCap) (hfit : sLen * i.size + news.length ≤ cur.size) :
    (Builtin.append_ #[t, t] ty #[.slice (some ⟨g, 0, none⟩) sLen sCap, .slice (some a) m c]).run P w =
      .ok (.slice (some ⟨g, 0, none⟩) (sLen + m) sCap) (w.setRow g (cur.toList.take (sLen * i.size) ++ news ++ cur.toList.drop (sLen * i.size + news.length)).toArray) := by
  have hf := run_firstCells_some (P := P) w i.size m a m c news hl hnews
  have hst := run_storeCells_atG P g (sLen * i.size) e fz news 0 cur w hg hfz (by simpa using hfit) h1
  simp only [Nat.add_zero] at hst
  simp [Builtin.append_, run_underlying ht, sizeOf, typeInfo, hi, Builtin.lenOf, hroom, hf, Addr.add_lit, hst]

/-- AN APPEND -/
theorem run_app {P : Program} (w : World) (B : Nat) (t ty e : TypeId) (i : TypeInfo) (z : Value) (size bytes : Nat) (ht : P.underlying t = some (.slice e)) (hi : P.info? e = some i) (hz : i.zero = some z)
    (hsize : i.size = size) (hby : i.bytes = bytes) (hzs : z.cells.size = size) (hsz : 0 < size)
    (v : Value) (n : Nat) (xs : List Value) (hown : rowG w B e size v n xs)
    (a : Addr) (m c : Nat) (news : List Value) (hl : news.length = m * size) (hnews : ∀ j u, news[j]? = some u → w.cell? (a.add j) = some u) (h1 : ∀ u ∈ news, u.oneCell' = true)
    (h63 : n + m ≤ maxLen) (hbytes : (n + m) * bytes ≤ 140737488355328) (hbase : B ≤ w.heap.size) :
    ∃ v' w', (Builtin.append_ #[t, t] ty #[v, .slice (some a) m c]).run P w = .ok v' w' ∧ rowG w' B e size v' (n + m) (xs ++ news) ∧ Up w v w' v' := by
  have up : ∀ (w' : World) (v' : Value), w'.ownsRow w.heap.size e size v' (n + m) (xs ++ news) → w.grownBy w' none → rowG w' B e size v' (n + m) (xs ++ news) ∧ Up w v w' v' := fun w' v' ho hg =>
    ⟨rowG_of ⟨ho.1, ho.2.imp id fun ⟨g, cap, cur, h1, h2, r⟩ => ⟨g, cap, cur, h1, Nat.le_trans hbase h2, r⟩⟩, ⟨hg.os, hg.tape, hg.output, hg.size, fun k hk _ => hg.block k hk (by simp)⟩, .inr fun k hk => (World.ownsRow.lt ho k hk).1⟩
  rcases hown.2 with ⟨rfl, rfl⟩ | ⟨g, cap, cur, fz, rfl, hbg, hg, hfz, hnc, hcm, hcs, htake⟩
  · obtain ⟨v', w', hr, ho, hg, _⟩ := run_append_own (P := P) w w.heap.size t ty e i z size bytes ht hi hz hsize hby hzs hsz (.slice none 0 0) 0 xs ⟨hown.1, .inl ⟨rfl, rfl⟩⟩ a m c news hl hnews h1 h63 hbytes (Nat.le_refl _)
    exact ⟨v', w', hr, up w' v' ho hg⟩
  · by_cases hroom : n + m ≤ cap
    · have hlen : (xs ++ news).length = (n + m) * size := by rw [List.length_append, hown.1, hl, Nat.add_mul]
      have hfit : n * size + news.length ≤ cur.size := by rw [hl, hcs, ← Nat.add_mul]; exact Nat.mul_le_mul_right _ hroom
      have hr := run_append_roomG (P := P) w t ty e i ht hi g n cap cur fz hg (by rw [hcs]; exact hfz) a m c news (by rw [hsize]; exact hl) hnews h1 hroom (by rw [hsize]; exact hfit)
      rw [hsize] at hr
      refine ⟨_, _, hr, ⟨hlen, .inr ⟨g, cap, _, fz, rfl, hbg, setRow_heap w g cur _ e _ hg, hfz, hroom, hcm, ?_, ?_⟩⟩, ⟨rfl, rfl, rfl, by simp, fun k _ hk => setRow_other w g k _ (fun e => hk (by simp [Value.ownBlock, e]))⟩, .inl rfl⟩
      · simp only [List.size_toArray, List.length_append, List.length_take, List.length_drop, Array.length_toList]
        omega
      · rw [htake, ← hlen]
        exact List.take_left
    · obtain ⟨v', w', hr, ho, hg⟩ := run_append_arg_grows (P := P) w t ty e i z size bytes ht hi hz hsize hby hzs hsz ⟨g, 0, none⟩ n cap xs hown.1 (hown.cells (g := g) rfl) a m c news hl hnews (by omega) h63 hbytes
      exact ⟨v', w', hr, up w' v' ho hg⟩

def Bs (E B : Nat) (w : World) (v : Value) (l : List UInt8) : Prop := rowG w B E 1 v l.length (Lib.byteCells l)
theorem Bs.of {E B : Nat} {w : World} {v : Value} {l : List UInt8} (h : Proofs.Ytacphlceggbfcaa.Bs E B w v l) : Bs E B w v l := rowG_of h
theorem Bs.alloc {E B : Nat} {w : World} {v : Value} {l : List UInt8} (h : Bs E B w v l) (o : Obj) : Bs E B (w.alloc o) v l := rowG.alloc h o
theorem Bs.lt {E B : Nat} {w : World} {v : Value} {l : List UInt8} (h : Bs E B w v l) : ∀ k, v.ownBlock = some k → B ≤ k ∧ k < w.heap.size := rowG.lt h
theorem Bs.kept' {E B : Nat} {w w' : World} {v : Value} {l : List UInt8} {row : Option Nat} (h : Bs E B w v l) (hg : w.grownBy w' row) (hne : v.ownBlock = none ∨ v.ownBlock ≠ row) : Bs E B w' v l := rowG.kept h hg hne
theorem Bs.lenEq {E B : Nat} {w : World} {v : Value} {l : List UInt8} (h : Bs E B w v l) : ∃ a c, v = .slice a l.length c := by
  rcases h.2 with ⟨rfl, h0⟩ | ⟨g, cap, cur, fz, rfl, _⟩
  · exact ⟨none, 0, by rw [h0]⟩
  · exact ⟨_, _, rfl⟩
theorem upBelow {E B : Nat} {w w' : World} {v v' : Value} {l : List UInt8} (h : Up w v w' v') (hown : Bs E B w v l) (hB : B ≤ w.heap.size) : Below B w w' :=
  (Below.refl B w).grown h.1 hB fun k hk => (rowG.lt hown k hk).1

theorem box_kept {E B : Nat} {w W : World} {o : Obj} {v V' : Value} {l : List UInt8} (hown : Bs E B w v l) (hup : Up (w.alloc o) v W V') (i : Nat) : W.cell? ⟨w.heap.size, i, none⟩ = (w.alloc o).cell? ⟨w.heap.size, i, none⟩ :=
  World.cell?_of_block (a := ⟨w.heap.size, i, none⟩) (hup.1.block w.heap.size (by simp) (fun e => by have := (Bs.lt hown _ e.symm).2; omega))

def LaidPost (B : Nat) (v : Value) (l : List UInt8) (w : World) (e : Ending) (w' : World) : Prop :=
  ∃ v', e = .returned v' ∧ Bs 5 B w' v' l ∧ Up w v w' v'

theorem conv_bs {P : Program} (E B : Nat) (w : World) (src dst : TypeId) (hs : P.underlying src = some (.slice E)) (he : P.underlying E = some (.int .u8)) (hd : P.underlying dst = some .string) (v : Value) (l : List UInt8) (hown : Bs E B w v l) :
    (convert src dst v).run P w = .ok (.string ⟨l.toArray⟩) w := by
  rcases hown.2 with ⟨rfl, h0⟩ | ⟨g, cap, cur, fz, rfl, _⟩
  · have : l = [] := List.eq_nil_of_length_eq_zero h0
    subst this
    exact run_convert_bytes_nil (P := P) w src E hs he 0 0 dst hd
  · exact run_convert_bytes_back (P := P) w src dst E _ cap l hs he hd fun j hj => rowG.cells hown (g := g) rfl j _ (by simp [Lib.byteCells, hj])

/-- '[]byte(s)' -/
theorem made (W : World) (s : ByteArray) (hs : s.size ≤ 1000000) : ∃ v' w', (convert 9 44 (.string s)).run Try.prog W = .ok v' w' ∧ Bs 5 W.heap.size w' v' s.data.toList ∧ Below W.heap.size W w' := by
  have hsz : s.data.toList.length = s.size := by rw [Array.length_toList]; rfl
  have hge := grownCap_ge W s.size 0 5
  have hcm := grownCap_le_maxLen W s.size 0 5 (by unfold maxLen; omega)
  have hrs : (bytesRow s (grownCap W s.size 0 5)).size = grownCap W s.size 0 5 := by
    unfold bytesRow
    rw [Array.size_append, Array.size_map, Array.size_replicate]
    have : s.data.size = s.size := rfl
    omega
  refine ⟨_, _, run_bytes_of_string (P := Try.prog) W 9 44 5 s Try.underlying9 Try.underlying44 Try.underlying5, ?_, ((Below.refl _ W).drew).alloc (Nat.le_refl _) _⟩
  refine ⟨by simp [Lib.byteCells], .inr ⟨W.heap.size, grownCap W s.size 0 5, _, _, by rw [hsz], Nat.le_refl _, heap_alloc_new W.drew _, .inl (by rw [hrs, Nat.mul_one]; exact Nat.le_refl _), by rw [hsz]; exact hge, hcm, by rw [hrs, Nat.mul_one], ?_⟩⟩
  rw [Nat.mul_one, hsz]
  unfold bytesRow
  rw [Array.toList_append, List.take_append_of_le_length (by simp), List.take_of_length_le (by simp)]
  simp [Lib.byteCells]

/-- ONE BYTE appended, as the walk meets it -/
theorem wpList_app1 {P : Program} (w : World) {ops : Array Oper} {rest : List Oper} {o : Oper} {a : Act} {Q : Exit → Act → World → Prop} (hgd : o.guard = none) (s x : Operand) (t : TypeId)
    (ho : o.op = .call { callee := .builtin .append, args := #[s, x], argTypes := #[t, t] })
    (E B : Nat) (ht : P.underlying t = some (.slice E)) (hi : (P.info? E).map (fun i => (i.zero, i.size, i.bytes)) = some (some (.int .u8 0), 1, 1))
    (v : Value) (l : List UInt8) (hs : a.eval s = v) (hown : Bs E B w v l) (b : Int) (c : Nat)
    (hx : a.eval x = .slice (some ⟨w.heap.size, 0, none⟩) 1 c) (h0 : 0 ≤ b) (h1 : b < 256)
    (h63 : l.length < 140737488355328) (hbase : B ≤ w.heap.size)
    (h : ∀ v' w', Bs E B w' v' (l ++ [UInt8.ofNat b.toNat]) → Up w v w' v' → wpList P ops Q rest (a.put o.dst v') w') :
    wpList P ops Q (o :: rest) a (w.alloc (.cells #[.int .u8 b] E)) := by
  obtain ⟨i, hi, hz, hi1, hi2⟩ := info_parts hi
  have hn : ∀ j u, [Value.int .u8 b][j]? = some u → (w.alloc (.cells #[.int .u8 b] E)).cell? ((⟨w.heap.size, 0, none⟩ : Addr).add j) = some u := by
    intro j u hj
    match j, hj with
    | 0, hj => simp at hj; subst hj; simp [Addr.add]
  refine wpList_plain hgd fun K hK => ?_
  obtain ⟨v', w', hr, ho', hu⟩ := run_app (P := P) (w.alloc (.cells #[.int .u8 b] E)) B t o.type E i (.int .u8 0) 1 1 ht hi hz hi1 hi2 rfl (by decide) v l.length (Lib.byteCells l) (hown.alloc _)
    ⟨w.heap.size, 0, none⟩ 1 c [.int .u8 b] rfl hn (by intro u hu; simp at hu; subst hu; rfl) (by unfold maxLen; omega) (by omega) (by simp; omega)
  unfold Oper.wp execOp
  simp only [ho, resolve, invoke, builtin, Sem.run_bind, Sem.run_pure, Result.andThen_ok, List.map_toArray, List.map_cons, List.map_nil, hs, hx, hr]
  refine hK _ _ (h v' w' ?_ hu.alloc)
  have e : Lib.byteCells [UInt8.ofNat b.toNat] = [.int .u8 b] := by
    have : b.toNat % 256 = b.toNat := by omega
    simp [Lib.byteCells, this]; omega
  unfold Bs
  rw [Lib.byteCells_append, List.length_append, e]
  exact ho'

/-- BYTES appended -/
theorem wpList_appN {P : Program} (w : World) {ops : Array Oper} {rest : List Oper} {o : Oper} {a : Act} {Q : Exit → Act → World → Prop} (hgd : o.guard = none) (s x : Operand) (t : TypeId)
    (ho : o.op = .call { callee := .builtin .append, args := #[s, x], argTypes := #[t, t] })
    (E B : Nat) (ht : P.underlying t = some (.slice E)) (hi : (P.info? E).map (fun i => (i.zero, i.size, i.bytes)) = some (some (.int .u8 0), 1, 1))
    (v : Value) (l : List UInt8) (hs : a.eval s = v) (hown : Bs E B w v l) (news : List UInt8) (cs : Array Value) (hcs : cs = (Lib.byteCells news).toArray) (c : Nat)
    (hx : a.eval x = .slice (some ⟨w.heap.size, 0, none⟩) news.length c)
    (h63 : l.length + news.length < 140737488355328) (hbase : B ≤ w.heap.size)
    (h : ∀ v' w', Bs E B w' v' (l ++ news) → Up w v w' v' → wpList P ops Q rest (a.put o.dst v') w') :
    wpList P ops Q (o :: rest) a (w.alloc (.cells cs E)) := by
  subst hcs
  obtain ⟨i, hi, hz, hi1, hi2⟩ := info_parts hi
  have hn : ∀ j u, (Lib.byteCells news)[j]? = some u → (w.alloc (.cells (Lib.byteCells news).toArray E)).cell? ((⟨w.heap.size, 0, none⟩ : Addr).add j) = some u := by
    intro j u hj
    have e : ((⟨w.heap.size, 0, none⟩ : Addr).add j) = ⟨w.heap.size, j, none⟩ := by unfold Addr.add; by_cases h0 : j = 0 <;> simp [h0]
    rw [e, cell_of_row (w.alloc (.cells (Lib.byteCells news).toArray E)) w.heap.size j (Lib.byteCells news).toArray E (0, 0) (heap_alloc_new w _)]
    simpa using hj
  refine wpList_plain hgd fun K hK => ?_
  obtain ⟨v', w', hr, ho', hu⟩ := run_app (P := P) (w.alloc (.cells (Lib.byteCells news).toArray E)) B t o.type E i (.int .u8 0) 1 1 ht hi hz hi1 hi2 rfl (by decide) v l.length (Lib.byteCells l) (hown.alloc _)
    ⟨w.heap.size, 0, none⟩ news.length c (Lib.byteCells news) (by simp [Lib.byteCells]) hn (by intro u hu; simp [Lib.byteCells] at hu; obtain ⟨b, _, rfl⟩ := hu; rfl) (by unfold maxLen; omega) (by omega) (by simp; omega)
  unfold Oper.wp execOp
  simp only [ho, resolve, invoke, builtin, Sem.run_bind, Sem.run_pure, Result.andThen_ok, List.map_toArray, List.map_cons, List.map_nil, hs, hx, hr]
  refine hK _ _ (h v' w' ?_ hu.alloc)
  unfold Bs
  rw [Lib.byteCells_append, List.length_append]
  exact ho'

/-- the heap's size by a letter -/
theorem wpList_app1H {P : Program} (w : World) (H : Nat) (hH : w.heap.size = H) {ops : Array Oper} {rest : List Oper} {o : Oper} {a : Act} {Q : Exit → Act → World → Prop} (hgd : o.guard = none) (s x : Operand) (t : TypeId)
    (ho : o.op = .call { callee := .builtin .append, args := #[s, x], argTypes := #[t, t] })
    (E B : Nat) (ht : P.underlying t = some (.slice E)) (hi : (P.info? E).map (fun i => (i.zero, i.size, i.bytes)) = some (some (.int .u8 0), 1, 1))
    (v : Value) (l : List UInt8) (hs : a.eval s = v) (hown : Bs E B w v l) (b : Int) (c : Nat)
    (hx : a.eval x = .slice (some ⟨H, 0, none⟩) 1 c) (h0 : 0 ≤ b) (h1 : b < 256)
    (h63 : l.length < 140737488355328) (hbase : B ≤ w.heap.size)
    (h : ∀ v' w', Bs E B w' v' (l ++ [UInt8.ofNat b.toNat]) → Up w v w' v' → wpList P ops Q rest (a.put o.dst v') w') :
    wpList P ops Q (o :: rest) a (w.alloc (.cells #[.int .u8 b] E)) := by
  subst hH
  exact wpList_app1 w hgd s x t ho E B ht hi v l hs hown b c hx h0 h1 h63 hbase h

end Go.Proofs.Ytacphlceggbfcaa.bsG
end

section
namespace Go.Proofs.Ytacphlceggbfcaa.bsG
open Go.RowKit 

set_option maxHeartbeats 1000000 in
set_option maxRecDepth 100000 in
theorem otext_any (B : Nat) (v : Value) (l : List UInt8) (s : ByteArray) (w : World) (hl : l.length + 2 * s.size + 2 < 140737488355000) (hB : B ≤ w.heap.size) (hown : Bs 5 B w v l) :
    Calls Try.prog 56 #[v, .string s] w (LaidPost B v (l ++ oT s.data.toList) w) := by
  have hsz : s.data.toList.length = s.size := by rw [Array.length_toList]; rfl
  go_enter Try.func56, Try.ntmps56
  go_wp2
  go_loopw [0, 8] (fun x c wr => ∃ k : Nat, k ≤ s.size ∧ c = .int .i64 k ∧ Bs 5 B wr x (l ++ esc (s.data.toList.take k)) ∧ Up w v wr x) (fun _ c _ => s.size - (intOf c).toNat)
  case atStart => exact ⟨0, Nat.zero_le _, rfl, by simpa [esc] using hown, Up.refl w v⟩
  case round =>
    obtain ⟨k, hk, rfl, hownk, hupk⟩ := hrel
    have hBk := hupk.1.size
    have hlk : (l ++ esc (s.data.toList.take k)).length ≤ l.length + 2 * k := by
      have := esc_length (s.data.toList.take k)
      rw [List.length_append]
      simp at this ⊢
      omega
    have hE := Lib.hid hsz
    by_cases hlt : k < s.size
    · have htk := esc_take s.data.toList k (by omega)
      have hc : s.data.toList[k]'(by omega) = s[k]'hlt := rfl
      rw [hc] at htk
      generalize hcc : s[k]'hlt = c at htk
      have hcb := c.toNat_lt
      by_cases h0 : c = 0
      · subst h0
        rw [if_pos rfl] at htk
        have hz : (((s[k]'hlt).toNat : Int) == 0) = true := by rw [hcc]; rfl
        have hz' : ((s[k]'hlt).toNat : Int) = 0 := by rw [hcc]; rfl
        have HT := Lib.hid htk
        clear htk hcc hc hsz
        go_wp2_with (first
          | (at_builtin; refine wpList_app1 _ rfl (.tmp 11) (.tmp 15) 44 rfl 5 B Try.underlying44 infoB _ _ rfl hownk _ _ rfl (by omega) (by omega) (by omega) (by omega) ?_; intro v2 w2 hown2 hup2)
          | (at_builtin; refine wpList_app1 _ rfl (.tmp 21) (.tmp 22) 44 rfl 5 B Try.underlying44 infoB _ _ rfl hown2 _ _ rfl (by decide) (by decide) (by simp only [List.length_append, List.length_cons, List.length_nil] at hlk ⊢; omega) (by have := hup2.1.size; omega) ?_; intro v3 w3 hown3 hup3))
        go_roundw
        case rel =>
          refine ⟨k + 1, by omega, by go_num, ?_, (hupk.trans hup2).trans hup3⟩
          rw [HT.out]
          simpa using hown3
        case measure => simp [intOf]; omega
      · rw [if_neg h0] at htk
        have hz' : ((s[k]'hlt).toNat : Int) ≠ 0 := by
          rw [hcc]; intro e; exact h0 (u8_toNat_eq.2 (by simpa using e))
        have hz : (((s[k]'hlt).toNat : Int) == 0) = false := by rw [beq_eq_false_iff_ne]; exact hz'
        have hcx : UInt8.ofNat ((s[k]'hlt).toNat : Int).toNat = c := by rw [← hcc]; simp
        have HC := Lib.hid hcx
        have hsb := (s[k]'hlt).toNat_lt
        have HT := Lib.hid htk
        clear htk hcc hc hsz hcx
        go_wp2_with (at_builtin; refine wpList_app1 _ rfl (.tmp 11) (.tmp 15) 44 rfl 5 B Try.underlying44 infoB _ _ rfl hownk _ _ rfl (by omega) (by omega) (by omega) (by omega) ?_; intro v2 w2 hown2 hup2)
        go_roundw
        case rel =>
          refine ⟨k + 1, by omega, by go_num, ?_, hupk.trans hup2⟩
          rw [HT.out]
          rw [HC.out] at hown2
          simpa using hown2
        case measure => simp [intOf]; omega
    · have hge : ¬ (k : Int) < (s.size : Int) := by omega
      have e : s.data.toList.take k = s.data.toList := List.take_of_length_le (by omega)
      rw [e] at hownk hlk
      have hle : (l ++ esc s.data.toList).length + ([0, 1] : List UInt8).length < 140737488355328 := by simp at hlk ⊢; omega
      clear hlt hsz e
      go_wp2_with (at_builtin; refine wpList_appN _ rfl (.tmp 25) (.tmp 26) 44 rfl 5 B Try.underlying44 infoB _ _ rfl hownk [0, 1] _ rfl _ rfl hle (by omega) ?_; intro v2 w2 hown2 hup2)
      go_ret
      refine ⟨v2, rfl, ?_, hupk.trans hup2⟩
      unfold oT
      rw [← List.append_assoc]
      exact hown2



end Go.Proofs.Ytacphlceggbfcaa.bsG
end

section
namespace Go.Proofs.Ytacphlceggbfcaa.bsG
open Go.RowKit 


set_option maxHeartbeats 1000000 in
set_option maxRecDepth 100000 in
theorem oint_any (B : Nat) (v : Value) (l : List UInt8) (n : Int) (hn : Is64 n) (w : World) (hl : l.length < 140737488355000) (hB : B ≤ w.heap.size) (hown : Bs 5 B w v l) :
    Calls Try.prog 58 #[v, .int .i64 n] w (LaidPost B v (l ++ oI n) w) := by
  have hx := xor_high n hn
  have hm : Hid (oI n = be 8 (n + 9223372036854775808).toNat) := Lib.hid rfl
  unfold Is64 at hn
  obtain ⟨h1, h2⟩ := hn
  have h3 : (n + 9223372036854775808).toNat < 18446744073709551616 := by omega
  generalize (n + 9223372036854775808).toNat = m at hx hm h3
  go_enter Try.func58, Try.ntmps58
  go_wp2
  go_loopw [0, 10] (fun x c wr => ∃ k : Nat, k ≤ 8 ∧ c = .int .i64 k ∧ Bs 5 B wr x (l ++ (be 8 m).take k) ∧ Up w v wr x) (fun _ c _ => 8 - (intOf c).toNat)
  case atStart => exact ⟨0, Nat.zero_le _, rfl, by simpa using hown, Up.refl w v⟩
  case round =>
    obtain ⟨k, hk, rfl, hownk, hupk⟩ := hrel
    have hBk := hupk.1.size
    have hlk : (l ++ (be 8 m).take k).length < 140737488355328 := by
      simp [be_length]; omega
    clear hx
    by_cases hlt : k < 8
    · have hsn := byte_shr8 m (7 - k)
      have htk := be_take 8 m k hlt
      have HT := Lib.hid htk
      have HS := Lib.hid hsn
      clear htk hsn
      go_wp2_with (at_builtin; refine wpList_app1 _ rfl (.tmp 13) (.tmp 20) 44 rfl 5 B Try.underlying44 infoB _ _ rfl hownk _ _ rfl (by omega) (by omega) hlk (by omega) ?_; intro v2 w2 hown2 hup2)
      go_roundw
      case rel =>
        refine ⟨k + 1, by omega, by go_num, ?_, hupk.trans hup2⟩
        rw [HT.out, ← List.append_assoc]
        rw [HS.out] at hown2
        exact hown2
      case measure => simp [intOf]; omega
    · go_wp2
      go_ret
      refine ⟨u0, rfl, ?_, hupk⟩
      have e : (be 8 m).take k = be 8 m := List.take_of_length_le (by rw [be_length]; omega)
      rw [hm.out, ← e]
      exact hownk



end Go.Proofs.Ytacphlceggbfcaa.bsG
end

section
namespace Go.Proofs.Ytacphlceggbfcaa.bsG
open Go.RowKit 


/-- what a value's bytes ask of it: kinds and numbers as they may be -/
inductive V.okk : V → Prop
  | mk (k : Int) (y : Bool) (n : Int) (t : ByteArray) (l : List V) (f : List (ByteArray × V)) (hk : 0 ≤ k ∧ k ≤ 5) (hn : Is64 n) (hl : ∀ x ∈ l, V.okk x) (hf : ∀ p ∈ f, V.okk p.2) : V.okk (.mk k y n t l f)

def OVOK (N : Nat) : Prop := ∀ (v : V) (lv fv : Value) (B : Nat) (v0 : Value) (l0 : L8) (w : World), v.dep ≤ N → v.okk → v.At w (fun b => b < B) lv fv → B ≤ w.heap.size → Bs 5 B w v0 l0 → l0.length + 2 * v.ob.length ≤ 140737488350000 →
  Calls Try.prog 22 #[v0, .agg #[.int .i64 v.kind, .bool v.yes, .int .i64 v.num, .string v.text, lv, fv]] w (LaidPost B v0 (l0 ++ v.ob) w)

theorem oflag_any (y : Bool) (w : World) : Calls Try.prog 57 #[.bool y] w fun e w' => e = .returned (.int .u8 (if y then 3 else 2)) ∧ w = w' := by
  cases y
  · go_enter Try.func57, Try.ntmps57
    go_wp2
    go_ret
    exact ⟨rfl, rfl⟩
  · go_enter Try.func57, Try.ntmps57
    go_wp2
    go_ret
    exact ⟨rfl, rfl⟩

theorem Up.under {w : World} {o : Obj} {v w' v'} (h : Up (w.alloc o) v w' v') : Up w v w' v' := h.alloc

set_option maxHeartbeats 4000000 in
set_option maxRecDepth 100000 in
/-- the values that are no list and no map -/
theorem oval_plain (k : Int) (y : Bool) (n : Int) (t : ByteArray) (l : List V) (f : List Fd) (lv fv : Value) (B : Nat) (v0 : Value) (l0 : L8) (w : World) (hk0 : 0 ≤ k) (hk3 : k ≤ 3) (hn : Is64 n)
    (hat : (V.mk k y n t l f).At w (fun b => b < B) lv fv) (hB : B ≤ w.heap.size) (hown : Bs 5 B w v0 l0) (hl : l0.length + 2 * (V.mk k y n t l f).ob.length ≤ 140737488350000) :
    Calls Try.prog 22 #[v0, .agg #[.int .i64 k, .bool y, .int .i64 n, .string t, lv, fv]] w (LaidPost B v0 (l0 ++ (V.mk k y n t l f).ob) w) := by
  obtain ⟨⟨a, c, rfl⟩, ⟨a', c', rfl⟩, _, _⟩ := hat.is.len
  obtain ⟨a0, c0, rfl⟩ := hown.lenEq
  simp only [V.list, V.fields] at *
  have hownB : Bs 5 B (w.alloc (.cells #[.int .i64 k, .bool y, .int .i64 n, .string t, .slice a l.length c, .slice a' f.length c'] 26)) (.slice a0 l0.length c0) l0 := Bs.alloc hown _
  have hBB : B ≤ (w.alloc (.cells #[.int .i64 k, .bool y, .int .i64 n, .string t, .slice a l.length c, .slice a' f.length c'] 26)).heap.size := by simp; omega
  have hob : Hid ((V.mk k y n t l f).ob = UInt8.ofNat (k + 2).toNat :: (if k = 1 then [if y then 3 else 2] else if k = 2 then oI n else if k = 3 then oT t.data.toList else if k = 4 then obL l ++ [1] else if k = 5 then obF f ++ [1] else [])) := Lib.hid (by rw [V.ob])
  rw [hob.out] at hl
  have HN := Lib.hid hn
  have hkk : k = 0 ∨ k = 1 ∨ k = 2 ∨ k = 3 := by omega
  clear hn hat hk0 hk3
  rcases hkk with rfl | rfl | rfl | rfl
  · simp at hl
    go_enter Try.func22, Try.ntmps22
    go_wp2_with (at_builtin; refine wpList_app1H _ (w.heap.size + 1) (by simp) rfl (.tmp 9) (.tmp 14) 44 rfl 5 B Try.underlying44 infoB _ l0 rfl hownB _ _ rfl (by decide) (by decide) (by omega) hBB ?_; intro v1 w1 hown1 hup1; have hc0 := (box_kept hown hup1 0); have hc1 := (box_kept hown hup1 1); have hc2 := (box_kept hown hup1 2); have hc3 := (box_kept hown hup1 3); simp at hc0 hc1 hc2 hc3)
    go_ret
    exact ⟨v1, rfl, by rw [hob.out]; simpa using hown1, hup1.alloc⟩
  · simp at hl
    go_enter Try.func22, Try.ntmps22
    go_wp2_with (at_builtin; refine wpList_app1H _ (w.heap.size + 1) (by simp) rfl (.tmp 9) (.tmp 14) 44 rfl 5 B Try.underlying44 infoB _ l0 rfl hownB _ _ rfl (by decide) (by decide) (by omega) hBB ?_; intro v1 w1 hown1 hup1; have hc0 := (box_kept hown hup1 0); have hc1 := (box_kept hown hup1 1); have hc2 := (box_kept hown hup1 2); have hc3 := (box_kept hown hup1 3); simp at hc0 hc1 hc2 hc3)
    have hz1 := hup1.1.size
    go_wp2_with fail
    refine (oflag_any y _).mono ?_
    rintro e w2 ⟨rfl, rfl⟩
    have hby : (0 : Int) ≤ (if y = true then 3 else 2) ∧ (if y = true then 3 else 2 : Int) < 256 := by cases y <;> simp
    have hbz : UInt8.ofNat (if y = true then 3 else 2 : Int).toNat = (if y = true then 3 else 2) := by cases y <;> rfl
    generalize (if y = true then 3 else 2 : Int) = b at hby hbz
    go_wp2_with (at_builtin; refine wpList_app1 _ rfl (.tmp 20) (.tmp 24) 44 rfl 5 B Try.underlying44 infoB _ _ rfl hown1 _ _ rfl hby.1 hby.2 (by simp; omega) (by omega) ?_; intro v2 w2 hown2 hup2)
    go_ret
    exact ⟨v2, rfl, by rw [hob.out]; rw [hbz] at hown2; simpa using hown2, (hup1.trans hup2).alloc⟩
  · have hoi := oI_length n
    rw [if_neg (by decide), if_pos rfl] at hl
    rw [List.length_cons] at hl
    go_enter Try.func22, Try.ntmps22
    go_wp2_with (at_builtin; refine wpList_app1H _ (w.heap.size + 1) (by simp) rfl (.tmp 9) (.tmp 14) 44 rfl 5 B Try.underlying44 infoB _ l0 rfl hownB _ _ rfl (by decide) (by decide) (by omega) hBB ?_; intro v1 w1 hown1 hup1; have hc0 := (box_kept hown hup1 0); have hc1 := (box_kept hown hup1 1); have hc2 := (box_kept hown hup1 2); have hc3 := (box_kept hown hup1 3); simp at hc0 hc1 hc2 hc3)
    have hz1 := hup1.1.size
    go_wp2_with fail
    refine (oint_any B v1 _ n HN.out w1 (by simp; omega) (by omega) hown1).mono ?_
    rintro e w2 ⟨v2, rfl, hown2, hup2⟩
    go_wp2
    go_ret
    exact ⟨v2, rfl, by rw [hob.out]; simpa using hown2, (hup1.trans hup2).alloc⟩
  · have hoi := oT_ge t.data.toList
    have hts : t.data.toList.length = t.size := by rw [Array.length_toList]; rfl
    rw [if_neg (by decide), if_neg (by decide), if_pos rfl, List.length_cons] at hl
    go_enter Try.func22, Try.ntmps22
    go_wp2_with (at_builtin; refine wpList_app1H _ (w.heap.size + 1) (by simp) rfl (.tmp 9) (.tmp 14) 44 rfl 5 B Try.underlying44 infoB _ l0 rfl hownB _ _ rfl (by decide) (by decide) (by omega) hBB ?_; intro v1 w1 hown1 hup1; have hc0 := (box_kept hown hup1 0); have hc1 := (box_kept hown hup1 1); have hc2 := (box_kept hown hup1 2); have hc3 := (box_kept hown hup1 3); simp at hc0 hc1 hc2 hc3)
    have hz1 := hup1.1.size
    go_wp2_with fail
    refine (otext_any B v1 _ t w1 (by simp; omega) (by omega) hown1).mono ?_
    rintro e w2 ⟨v2, rfl, hown2, hup2⟩
    go_wp2
    go_ret
    exact ⟨v2, rfl, by rw [hob.out]; simpa using hown2, (hup1.trans hup2).alloc⟩




/-- one byte appended: what comes of it -/
theorem app_byte (W : World) (B : Nat) (v : Value) (l : List UInt8) (hown : Bs 5 B W v l) (b : Int) (h0 : 0 ≤ b) (h1 : b < 256) (h63 : l.length < 140737488355328) (hbase : B ≤ W.heap.size) :
    ∃ v' w', (Builtin.append_ #[44, 44] 44 #[v, .slice (some ⟨W.heap.size, 0, none⟩) 1 1]).run Try.prog (W.alloc (.cells #[.int .u8 b] 5)) = .ok v' w' ∧ Bs 5 B w' v' (l ++ [UInt8.ofNat b.toNat]) ∧ Up W v w' v' := by
  obtain ⟨i, hi, hz, hi1, hi2⟩ := info_parts infoB
  have hn : ∀ j u, [Value.int .u8 b][j]? = some u → (W.alloc (.cells #[.int .u8 b] 5)).cell? ((⟨W.heap.size, 0, none⟩ : Addr).add j) = some u := by
    intro j u hj
    match j, hj with
    | 0, hj => simp at hj; subst hj; simp [Addr.add]
  obtain ⟨v', w', hr, ho', hu⟩ := run_app (P := Try.prog) (W.alloc (.cells #[.int .u8 b] 5)) B 44 44 5 i (.int .u8 0) 1 1 Try.underlying44 hi hz hi1 hi2 rfl (by decide) v l.length (Lib.byteCells l) (hown.alloc _)
    ⟨W.heap.size, 0, none⟩ 1 1 [.int .u8 b] rfl hn (by intro u hu; simp at hu; subst hu; rfl) (by unfold maxLen; omega) (by omega) (by simp; omega)
  refine ⟨v', w', hr, ?_, hu.alloc⟩
  have e : Lib.byteCells [UInt8.ofNat b.toNat] = [.int .u8 b] := by
    have : b.toNat % 256 = b.toNat := by omega
    simp [Lib.byteCells, this]; omega
  unfold Bs
  rw [Lib.byteCells_append, List.length_append, e]
  exact ho'

set_option maxHeartbeats 4000000 in
set_option maxRecDepth 100000 in
theorem oval_list (N : Nat) (ih : OVOK N) (y : Bool) (n : Int) (t : ByteArray) (l : List V) (f : List Fd) (hdl : ∀ x ∈ l, x.dep ≤ N) (hok : ∀ x ∈ l, x.okk) (lv fv : Value) (B : Nat) (v0 : Value) (l0 : L8) (w : World)
    (hat : (V.mk 4 y n t l f).At w (fun b => b < B) lv fv) (hB : B ≤ w.heap.size) (hown : Bs 5 B w v0 l0) (hl : l0.length + 2 * (V.mk 4 y n t l f).ob.length ≤ 140737488350000) :
    Calls Try.prog 22 #[v0, .agg #[.int .i64 4, .bool y, .int .i64 n, .string t, lv, fv]] w (LaidPost B v0 (l0 ++ (V.mk 4 y n t l f).ob) w) := by
  obtain ⟨⟨a, c, rfl⟩, ⟨a', c', rfl⟩, hLb, hFb⟩ := hat.is.len
  obtain ⟨a0, c0, rfl⟩ := hown.lenEq
  simp only [V.list, V.fields] at *
  have hownB : Bs 5 B (w.alloc (.cells #[.int .i64 4, .bool y, .int .i64 n, .string t, .slice a l.length c, .slice a' f.length c'] 26)) (.slice a0 l0.length c0) l0 := Bs.alloc hown _
  have hBB : B ≤ (w.alloc (.cells #[.int .i64 4, .bool y, .int .i64 n, .string t, .slice a l.length c, .slice a' f.length c'] 26)).heap.size := by simp; omega
  have hbw : Below B w (w.alloc (.cells #[.int .i64 4, .bool y, .int .i64 n, .string t, .slice a l.length c, .slice a' f.length c'] 26)) := (Below.refl _ _).alloc hB _
  have hob : Hid ((V.mk 4 y n t l f).ob = 6 :: (obL l ++ [1])) := Lib.hid (by rw [V.ob]; rfl)
  rw [hob.out] at hl
  simp only [List.length_cons, List.length_append, List.length_nil] at hl
  have HDL := Lib.hid hdl
  have HOK := Lib.hid hok
  have HAT := Lib.hid hat
  clear hdl hok hat
  go_enter Try.func22, Try.ntmps22
  go_wp2_with (at_builtin; refine wpList_app1H _ (w.heap.size + 1) (by simp) rfl (.tmp 9) (.tmp 14) 44 rfl 5 B Try.underlying44 infoB _ l0 rfl hownB _ _ rfl (by decide) (by decide) (by omega) hBB ?_; intro v1 w1 hown1 hup1; have hc0 := (box_kept hown hup1 0); have hc4 := (box_kept hown hup1 4); have hc5 := (box_kept hown hup1 5); simp at hc0 hc4 hc5)
  have hz1 := hup1.1.size
  clear hc0 hc5
  go_wp2_with fail
  go_loopw [0, 43] (fun x i wr => ∃ j : Nat, j ≤ l.length ∧ i = .int .i64 j ∧ Bs 5 B wr x (l0 ++ 6 :: obL (l.take j)) ∧ Up (w.alloc (.cells #[.int .i64 4, .bool y, .int .i64 n, .string t, .slice a l.length c, .slice a' f.length c'] 26)) (.slice a0 l0.length c0) wr x) (fun _ i _ => l.length - (intOf i).toNat)
  case atStart => exact ⟨0, Nat.zero_le _, rfl, by simpa [obL] using hown1, hup1⟩
  case round =>
    clear hown1 hup1 hz1 hc4
    obtain ⟨j, hj, rfl, hownj, hupj⟩ := hrel
    have hbj := hbw.trans (upBelow hupj hownB hBB)
    have hzj := Nat.le_trans hB hbj.size
    have hle := obL_le l j
    by_cases hjl : j < l.length
    · have hatj := HAT.out.low hbj
      obtain ⟨⟨a2, c2, e1, _, _, hcl⟩, _⟩ := V.at_iff.1 hatj
      injection e1 with e1 e3 e2
      clear e3
      subst e1 e2
      obtain ⟨b, off, rfl, hbB, hbl, hLC⟩ : ∃ b off, a = some ⟨b, off, none⟩ ∧ b < B ∧ b < wr.heap.size ∧ LCells wr (fun b => b < B) b off l := by
        rcases hcl with h | h
        · have h : l = [] := h
          rw [h] at hjl; simp at hjl
        · exact h
      obtain ⟨lv', fv', hin, hel⟩ := hLC.get hjl
      have hxf := HOK.out _ (List.getElem_mem hjl)
      have hxd := HDL.out _ (List.getElem_mem hjl)
      obtain ⟨q0, q1, q2, q3, q4, q5⟩ := hin.six
      have htk := obL_take l j hjl
      have hle2 := obL_le l (j + 1)
      generalize l[j] = x at q0 q1 q2 q3 q4 q5 hel hxf hxd htk
      obtain ⟨⟨ax, cx, rfl⟩, ⟨ax', cx', rfl⟩, _, _⟩ := hel.is.len
      have hjl' : (j : Int) < (l.length : Int) := by omega
      have hlen : (l0 ++ 6 :: obL (l.take j)).length + 2 * x.ob.length ≤ 140737488350000 := by
        rw [htk, List.length_append] at hle2
        simp only [List.length_cons, List.length_append]
        omega
      have HT := Lib.hid htk
      have hown5 : Bs 5 B (wr.alloc (.cells #[.int .i64 x.kind, .bool x.yes, .int .i64 x.num, .string x.text, .slice ax x.list.length cx, .slice ax' x.fields.length cx'] 26)) u0 (l0 ++ 6 :: obL (l.take j)) := Bs.alloc hownj _
      have hcall := ih x _ _ B u0 _ (wr.alloc (.cells #[.int .i64 x.kind, .bool x.yes, .int .i64 x.num, .string x.text, .slice ax x.list.length cx, .slice ax' x.fields.length cx'] 26)) hxd hxf (hel.low ((Below.refl B wr).alloc hzj _)) (by simp; omega) hown5 hlen
      clear htk hin hel hLC hatj hcl hownj hle2 hlen
      go_wp2_with fail
      refine hcall.mono ?_
      rintro e w3 ⟨v3, rfl, hown3, hup3⟩
      clear hcall
      go_wp2
      go_roundw
      case rel =>
        refine ⟨j + 1, by omega, by go_num, ?_, hupj.trans hup3.alloc⟩
        rw [HT.out]
        simpa using hown3
      case measure => simp [intOf]; omega
    · have hge : ¬ (j : Int) < (l.length : Int) := by omega
      have e : l.take j = l := List.take_of_length_le (by omega)
      rw [e] at hownj
      clear hjl e
      go_wp2_with (at_builtin; refine wpList_app1 _ rfl (.tmp 51) (.tmp 52) 44 rfl 5 B Try.underlying44 infoB _ _ rfl hownj _ _ rfl (by decide) (by decide) (by simp; omega) hzj ?_; intro v2 w2 hown2 hup2)
      go_ret
      exact ⟨v2, rfl, by rw [hob.out]; simpa using hown2, (hupj.trans hup2).alloc⟩

section
attribute [-go_sem] Builtin.append_
set_option maxHeartbeats 4000000 in
set_option maxRecDepth 100000 in
theorem oval_map (N : Nat) (ih : OVOK N) (y : Bool) (n : Int) (t : ByteArray) (l : List V) (f : List Fd) (hdf : ∀ p ∈ f, p.2.dep ≤ N) (hok : ∀ p ∈ f, p.2.okk) (lv fv : Value) (B : Nat) (v0 : Value) (l0 : L8) (w : World)
    (hat : (V.mk 5 y n t l f).At w (fun b => b < B) lv fv) (hB : B ≤ w.heap.size) (hown : Bs 5 B w v0 l0) (hl : l0.length + 2 * (V.mk 5 y n t l f).ob.length ≤ 140737488350000) :
    Calls Try.prog 22 #[v0, .agg #[.int .i64 5, .bool y, .int .i64 n, .string t, lv, fv]] w (LaidPost B v0 (l0 ++ (V.mk 5 y n t l f).ob) w) := by
  obtain ⟨⟨a, c, rfl⟩, ⟨a', c', rfl⟩, hLb, hFb⟩ := hat.is.len
  obtain ⟨a0, c0, rfl⟩ := hown.lenEq
  simp only [V.list, V.fields] at *
  have hownB : Bs 5 B (w.alloc (.cells #[.int .i64 5, .bool y, .int .i64 n, .string t, .slice a l.length c, .slice a' f.length c'] 26)) (.slice a0 l0.length c0) l0 := Bs.alloc hown _
  have hBB : B ≤ (w.alloc (.cells #[.int .i64 5, .bool y, .int .i64 n, .string t, .slice a l.length c, .slice a' f.length c'] 26)).heap.size := by simp; omega
  have hbw : Below B w (w.alloc (.cells #[.int .i64 5, .bool y, .int .i64 n, .string t, .slice a l.length c, .slice a' f.length c'] 26)) := (Below.refl _ _).alloc hB _
  have hob : Hid ((V.mk 5 y n t l f).ob = 7 :: (obF f ++ [1])) := Lib.hid (by rw [V.ob]; rfl)
  rw [hob.out] at hl
  simp only [List.length_cons, List.length_append, List.length_nil] at hl
  have HDF := Lib.hid hdf
  have HOK := Lib.hid hok
  have HAT := Lib.hid hat
  clear hdf hok hat
  go_enter Try.func22, Try.ntmps22
  go_wp2_with (at_builtin; refine wpList_app1H _ (w.heap.size + 1) (by simp) rfl (.tmp 9) (.tmp 14) 44 rfl 5 B Try.underlying44 infoB _ l0 rfl hownB _ _ rfl (by decide) (by decide) (by omega) hBB ?_; intro v1 w1 hown1 hup1; have hc0 := (box_kept hown hup1 0); have hc4 := (box_kept hown hup1 4); have hc5 := (box_kept hown hup1 5); simp at hc0 hc4 hc5)
  have hz1 := hup1.1.size
  clear hc0 hc4
  go_wp2_with fail
  go_loopw [0, 59] (fun x i wr => ∃ j : Nat, j ≤ f.length ∧ i = .int .i64 j ∧ Bs 5 B wr x (l0 ++ 7 :: obF (f.take j)) ∧ Up (w.alloc (.cells #[.int .i64 5, .bool y, .int .i64 n, .string t, .slice a l.length c, .slice a' f.length c'] 26)) (.slice a0 l0.length c0) wr x) (fun _ i _ => f.length - (intOf i).toNat)
  case atStart => exact ⟨0, Nat.zero_le _, rfl, by simpa [obF] using hown1, hup1⟩
  case round =>
    clear hown1 hup1 hz1 hc5
    obtain ⟨j, hj, rfl, hownj, hupj⟩ := hrel
    have hbj := hbw.trans (upBelow hupj hownB hBB)
    have hzj := Nat.le_trans hB hbj.size
    have hle := obF_le f j
    by_cases hjl : j < f.length
    · have hatj := HAT.out.low hbj
      obtain ⟨_, ⟨a2, c2, e1, _, _, hcl⟩⟩ := V.at_iff.1 hatj
      injection e1 with e1 e3 e2
      clear e3
      subst e1 e2
      obtain ⟨b, off, rfl, hbB, hbl, hFC⟩ : ∃ b off, a' = some ⟨b, off, none⟩ ∧ b < B ∧ b < wr.heap.size ∧ FCells wr (fun b => b < B) b off f := by
        rcases hcl with h | h
        · have h : f = [] := h
          rw [h] at hjl; simp at hjl
        · exact h
      obtain ⟨lv', fv', hin, hel⟩ := hFC.get hjl
      have hxf := HOK.out _ (List.getElem_mem hjl)
      have hxd := HDF.out _ (List.getElem_mem hjl)
      obtain ⟨q0, q1, q2, q3, q4, q5, q6⟩ := hin.seven
      have htk := obF_take f j hjl
      have hle2 := obF_le f (j + 1)
      generalize (f[j]).1 = nm at q0 htk
      generalize (f[j]).2 = x at q1 q2 q3 q4 q5 q6 hel hxf hxd htk
      obtain ⟨⟨ax, cx, rfl⟩, ⟨ax', cx', rfl⟩, _, _⟩ := hel.is.len
      have hjl' : (j : Int) < (f.length : Int) := by omega
      have hnm := oT_ge nm.data.toList
      have hns : nm.data.toList.length = nm.size := by rw [Array.length_toList]; rfl
      have hlen1 : (l0 ++ 7 :: obF (f.take j)).length + 2 + 2 * nm.size + 2 * x.ob.length + 2 < 140737488350000 := by
        rw [htk, List.length_append] at hle2
        simp only [List.length_cons, List.length_append] at hle2 ⊢
        omega
      have hlen2 : ((l0 ++ 7 :: obF (f.take j)) ++ [2] ++ oT nm.data.toList).length + 2 * x.ob.length ≤ 140737488350000 := by
        rw [htk, List.length_append] at hle2
        simp only [List.length_cons, List.length_append, List.length_nil] at hle2 ⊢
        omega
      have HT := Lib.hid htk
      obtain ⟨L1, hL1⟩ : ∃ L1, L1 = l0 ++ 7 :: obF (f.take j) := ⟨_, rfl⟩
      rw [← hL1] at hownj hlen1 hlen2
      have HL1 := Lib.hid hL1
      have HLN := Lib.hid (And.intro hlen1 hlen2)
      have hl1 : L1.length < 140737488355328 := by omega
      clear hL1 hle2 hlen1 hlen2 hnm hns
      have hb5 : Below B wr (wr.alloc (.cells #[.string nm, .int .i64 x.kind, .bool x.yes, .int .i64 x.num, .string x.text, .slice ax x.list.length cx, .slice ax' x.fields.length cx'] 68)).drew := ((Below.refl B wr).alloc hzj _).drew
      have hz5 : B ≤ (wr.alloc (.cells #[.string nm, .int .i64 x.kind, .bool x.yes, .int .i64 x.num, .string x.text, .slice ax x.list.length cx, .slice ax' x.fields.length cx'] 68)).drew.heap.size := Nat.le_trans hzj hb5.size
      have hown5 : Bs 5 B (wr.alloc (.cells #[.string nm, .int .i64 x.kind, .bool x.yes, .int .i64 x.num, .string x.text, .slice ax x.list.length cx, .slice ax' x.fields.length cx'] 68)).drew u0 L1 := Bs.alloc hownj _
      have hup5 : Up wr u0 (wr.alloc (.cells #[.string nm, .int .i64 x.kind, .bool x.yes, .int .i64 x.num, .string x.text, .slice ax x.list.length cx, .slice ax' x.fields.length cx'] 68)).drew u0 := ⟨⟨rfl, rfl, rfl, by simp, fun k hk _ => Below.heap_alloc wr _ k hk⟩, .inl rfl⟩
      have hel5 := Lib.hid (hel.low hb5)
      have hkeep : Hid (∀ (w' : World) (V' : Value), Up (wr.alloc (.cells #[.string nm, .int .i64 x.kind, .bool x.yes, .int .i64 x.num, .string x.text, .slice ax x.list.length cx, .slice ax' x.fields.length cx'] 68)).drew u0 w' V' → w'.cell? ⟨wr.heap.size, 0, none⟩ = some (.string nm) ∧ w'.cell? ⟨wr.heap.size, 1, none⟩ = some (.int .i64 x.kind) ∧ w'.cell? ⟨wr.heap.size, 2, none⟩ = some (.bool x.yes) ∧ w'.cell? ⟨wr.heap.size, 3, none⟩ = some (.int .i64 x.num) ∧ w'.cell? ⟨wr.heap.size, 4, none⟩ = some (.string x.text) ∧ w'.cell? ⟨wr.heap.size, 5, none⟩ = some (.slice ax x.list.length cx) ∧ w'.cell? ⟨wr.heap.size, 6, none⟩ = some (.slice ax' x.fields.length cx')) := Lib.hid (fun w' V' hup => by
        have hkk := fun i => World.cell?_of_block (a := ⟨wr.heap.size, i, none⟩) (hup.1.block wr.heap.size (by simp) (fun e => by have := (Bs.lt hownj _ e.symm).2; omega))
        exact ⟨by rw [hkk]; simp, by rw [hkk]; simp, by rw [hkk]; simp, by rw [hkk]; simp, by rw [hkk]; simp, by rw [hkk]; simp, by rw [hkk]; simp⟩)
      have HXD := Lib.hid hxd
      have HXF := Lib.hid hxf
      have HB5 := Lib.hid hb5
      obtain ⟨v2, w2, hrun, hown2, hup2⟩ := app_byte (wr.alloc (.cells #[.string nm, .int .i64 x.kind, .bool x.yes, .int .i64 x.num, .string x.text, .slice ax x.list.length cx, .slice ax' x.fields.length cx'] 68)).drew B u0 L1 hown5 2 (by decide) (by decide) hl1 hz5
      have hS2 := hkeep.out w2 v2 hup2
      have hb2 := upBelow hup2 hown5 hz5
      have hz0 : (wr.alloc (.cells #[.string nm, .int .i64 x.kind, .bool x.yes, .int .i64 x.num, .string x.text, .slice ax x.list.length cx, .slice ax' x.fields.length cx'] 68)).drew.heap.size = wr.heap.size + 1 := by show (wr.alloc (.cells #[.string nm, .int .i64 x.kind, .bool x.yes, .int .i64 x.num, .string x.text, .slice ax x.list.length cx, .slice ax' x.fields.length cx'] 68)).heap.size = _; simp
      rw [hz0] at hrun
      have hrun2 : (Builtin.append_ #[44, 44] 44 #[u0, .slice (some ⟨wr.heap.size + 1, 0, none⟩) 1 1]).run Try.prog ((wr.alloc (.cells #[.string nm, .int .i64 x.kind, .bool x.yes, .int .i64 x.num, .string x.text, .slice ax x.list.length cx, .slice ax' x.fields.length cx'] 68)).alloc (.cells #[.int .u8 2] 5)).drew = .ok v2 w2 := hrun
      clear htk hin hel hFC hatj hcl hxd hxf hb5 hz0
      go_wp2_with fail
      go_region_held3 (fun w' => w'.cell? ⟨wr.heap.size, 0, none⟩ = some (.string nm) ∧ w'.cell? ⟨wr.heap.size, 1, none⟩ = some (.int .i64 x.kind) ∧ w'.cell? ⟨wr.heap.size, 2, none⟩ = some (.bool x.yes) ∧ w'.cell? ⟨wr.heap.size, 3, none⟩ = some (.int .i64 x.num) ∧ w'.cell? ⟨wr.heap.size, 4, none⟩ = some (.string x.text) ∧ w'.cell? ⟨wr.heap.size, 5, none⟩ = some (.slice ax x.list.length cx) ∧ w'.cell? ⟨wr.heap.size, 6, none⟩ = some (.slice ax' x.fields.length cx')) (first | go_keep | exact hS2 | exact hS3 | exact hS4)
        (first
          | (go_at_call 56
             refine (otext_any B v2 _ nm w2 ?_ ?_ hown2).mono ?_
             · have := HLN.out.1; simp; omega
             · exact Nat.le_trans hz5 hb2.size
             rintro e w3 ⟨v3, rfl, hown3, hup3⟩
             have hS3 := hkeep.out w3 v3 (hup2.trans hup3)
             have hb3 := hb2.trans (upBelow hup3 hown2 (Nat.le_trans hz5 hb2.size)))
          | (go_at_call 22
             refine (ih x _ _ B v3 _ w3 HXD.out HXF.out (hel5.out.low hb3) (Nat.le_trans hz5 hb3.size) hown3 ?_).mono ?_
             · exact HLN.out.2
             rintro e w4 ⟨v4, rfl, hown4, hup4⟩
             have hS4 := hkeep.out w4 v4 ((hup2.trans hup3).trans hup4)))
      go_wp2
      go_roundw
      case rel =>
        refine ⟨j + 1, by omega, by go_num, ?_, hupj.trans (hup5.trans ((hup2.trans hup3).trans hup4))⟩
        rw [HT.out]
        rw [HL1.out] at hown4
        simpa using hown4
      case measure => simp [intOf]; omega
    · have hge : ¬ (j : Int) < (f.length : Int) := by omega
      have e : f.take j = f := List.take_of_length_le (by omega)
      rw [e] at hownj
      clear hjl e
      go_wp2_with (at_builtin; refine wpList_app1 _ rfl (.tmp 73) (.tmp 74) 44 rfl 5 B Try.underlying44 infoB _ _ rfl hownj _ _ rfl (by decide) (by decide) (by simp; omega) hzj ?_; intro v2 w2 hown2 hup2)
      go_ret
      exact ⟨v2, rfl, by rw [hob.out]; simpa using hown2, (hupj.trans hup2).alloc⟩

end
theorem oval_all : ∀ N, OVOK N
  | 0 => fun v lv fv B v0 l0 w hd => by
    cases v
    rw [V.dep] at hd
    omega
  | N + 1 => fun v lv fv B v0 l0 w hd hok hat hB hown hl => by
    have hdl : ∀ x ∈ v.list, x.dep ≤ N := fun x hx => by have := dep_list hx; omega
    have hdf : ∀ p ∈ v.fields, p.2.dep ≤ N := fun p hp => by have := dep_fields hp; omega
    obtain ⟨k, y, n, t, l, f, hk, hn, hll, hff⟩ := hok
    by_cases h3 : k ≤ 3
    · exact oval_plain k y n t l f lv fv B v0 l0 w hk.1 h3 hn hat hB hown hl
    · by_cases h4 : k = 4
      · subst h4
        exact oval_list N (oval_all N) y n t l f hdl hll lv fv B v0 l0 w hat hB hown hl
      · obtain rfl : k = 5 := by omega
        exact oval_map N (oval_all N) y n t l f hdf hff lv fv B v0 l0 w hat hB hown hl



end Go.Proofs.Ytacphlceggbfcaa.bsG
end

section
namespace Go.Proofs.Ytacphlceggbfcaa
open Go.ChangeShapes Go.WideShapes Go.ChangeAt Go.RowKit Go.Deep Go.Joins

structure Ix where
  name : ByteArray
  field : ByteArray
  uniq : Bool
instance : Inhabited Ix := ⟨⟨⟨#[]⟩, ⟨#[]⟩, false⟩⟩
def ixcells (x : Ix) : List Value := [.string x.name, .string x.field, .bool x.uniq]

/-- an index in three cells -/
def IxIn (w : World) (b o : Nat) (x : Ix) : Prop := w.cell? ⟨b, o, none⟩ = some (.string x.name) ∧ w.cell? ⟨b, o + 1, none⟩ = some (.string x.field) ∧ w.cell? ⟨b, o + 2, none⟩ = some (.bool x.uniq)
def IxsIs (w : World) (a : Option Addr) (xs : List Ix) : Prop := xs = [] ∨ ∃ b off, a = some ⟨b, off, none⟩ ∧ b < w.heap.size ∧ ∀ i (h : i < xs.length), IxIn w b (off + i * 3) (xs[i])
theorem IxsIs.below {w w' : World} {a : Option Addr} {xs : List Ix} (h : IxsIs w a xs) (hb : Below w.heap.size w w') : IxsIs w' a xs := by
  refine h.imp id ?_
  rintro ⟨b, off, e, hlt, hv⟩
  refine ⟨b, off, e, Nat.lt_of_lt_of_le hlt hb.size, fun i hi => ?_⟩
  obtain ⟨h0, h1, h2⟩ := hv i hi
  exact ⟨(hb.cell (p := ⟨b, _, none⟩) hlt).trans h0, (hb.cell (p := ⟨b, _, none⟩) hlt).trans h1, (hb.cell (p := ⟨b, _, none⟩) hlt).trans h2⟩
theorem IxsIs.at_ {w : World} {a : Option Addr} {xs : List Ix} (h : IxsIs w a xs) (i : Nat) (hi : i < xs.length) : ∃ b off, a = some ⟨b, off, none⟩ ∧ b < w.heap.size ∧ IxIn w b (off + i * 3) xs[i] ∧ ∀ j (hj : j < xs.length), IxIn w b (off + j * 3) xs[j] := by
  rcases h with h | ⟨b, off, e, hlt, hv⟩
  · rw [h] at hi; simp at hi
  · exact ⟨b, off, e, hlt, hv i hi, hv⟩

theorem cellsIx : Try.prog.cellsOf 56 = 3 := by kernel_rfl

set_option maxRecDepth 100000 in
theorem ix_of {H : Type} {enc : TypeId × Value → H} {W : World} {base : Nat} {sp : Nat → Bool} {held : Bool} {n : Nat} {cs : List Value} {x : DataW H × List MemPlace}
    (h : DataW.trod enc Try.prog W base sp held n 56 cs = some x) : ∃ v : Ix, cs = ixcells v ∧ v.name.size ≤ maxLen ∧ v.field.size ≤ maxLen := by
  obtain ⟨y0, y1, y2, m, _, hl, h0, h1, h2⟩ := trod_struct3 Try.underlying56 h
  rw [cellsIx] at hl
  obtain ⟨c0, c1, c2, rfl⟩ : ∃ c0 c1 c2, cs = [c0, c1, c2] := by
    rcases cs with _ | ⟨c0, _ | ⟨c1, _ | ⟨c2, _ | ⟨c3, r⟩⟩⟩⟩
    · simp at hl
    · simp at hl
    · simp at hl
    · exact ⟨c0, c1, c2, rfl⟩
    · simp at hl
  clear hl
  obtain ⟨k, e0, _, z0⟩ := DataW.trod_string Try.underlying9 h0
  obtain ⟨s, e2, _, z1⟩ := DataW.trod_string Try.underlying9 h1
  obtain ⟨y, e3, _⟩ := DataW.trod_bool Try.underlying4 h2
  refine ⟨⟨k, s, y⟩, ?_, z0, z1⟩
  have f0 : c0 = .string k := by
    have : [c0] = [.string k] := e0
    simpa using this
  have f1 : c1 = .string s := by
    have : [c1] = [.string s] := e2
    simpa using this
  have f2 : c2 = .bool y := by
    have : [c2] = [.bool y] := e3
    simpa using this
  rw [f0, f1, f2]
  rfl

/-- What a walk is told of indexes that came in. -/
def IxsCame (w : World) (a : Option Addr) (len cap : Nat) (xs : List Ix) : Prop := xs.length = len ∧ len ≤ cap ∧ cap ≤ 9223372036854775807 ∧ IxsIs w a xs ∧ ∀ x ∈ xs, x.name.size ≤ maxLen ∧ x.field.size ≤ maxLen

set_option linter.unusedSimpArgs false in
theorem ixs_trod {H : Type} {enc : TypeId × Value → H} {W : World} {base : Nat} {sp : Nat → Bool} {held : Bool} {fuel : Nat} {cs : List Value} {x : DataW H × List MemPlace}
    (hf : DataW.trod enc Try.prog W base sp held fuel 49 cs = some x) : ∃ a len cap, cs = [.slice a len cap] ∧ ∃ xs, IxsCame W a len cap xs := by
  rcases open_slice Try.underlying49 hf with ⟨hcs, _⟩ | ⟨x, l, c, m, n, D, Pl, hcs, _, hl, hmx, hm, _, hx⟩
  · exact ⟨none, 0, 0, hcs, [], rfl, Nat.le_refl _, by omega, .inl rfl, by simp⟩
  · refine ⟨some x, l, c, hcs, ?_⟩
    have hmx' : c ≤ 9223372036854775807 := by unfold maxLen at hmx; exact hmx
    by_cases h0 : l = 0
    · subst h0
      exact ⟨[], rfl, hl, hmx', .inl rfl, by simp⟩
    · have hm' : l ≤ m := by rw [hm]; split <;> omega
      obtain ⟨f, hfp⟩ := choose_lt (n := l) (p := fun i (p : Ix) => (∀ j v, (ixcells p)[j]? = some v → W.cell? ((x.add (i * 3)).add j) = some v) ∧ p.name.size ≤ maxLen ∧ p.field.size ≤ maxLen) (fun i hi => by
        obtain ⟨cs', h1, h2⟩ := hx i (by omega)
        obtain ⟨p, hp, hp2⟩ := ix_of h2
        rw [cellsIx] at h1
        obtain ⟨_, hlen, hc⟩ := World.cells?_some h1
        refine ⟨p, fun j v hj => ?_, hp2⟩
        rw [← hp] at hj
        have hj4 : j < 3 := by
          have := (List.getElem?_eq_some_iff.1 hj).1
          omega
        rw [hc j hj4, hj])
      have hspot : x.spot = none := by
        have h1 := (hfp 0 (by omega)).1 0 _ rfl
        simpa [Addr.add] using World.cell?_spot h1
      obtain ⟨b, off, spot⟩ := x
      have hspot : spot = none := hspot
      subst hspot
      have hat : ∀ i j, ((⟨b, off, none⟩ : Addr).add (i * 3)).add j = ⟨b, off + i * 3 + j, none⟩ := fun i j => by
        unfold Addr.add
        by_cases h1 : i * 3 = 0 <;> by_cases h2 : j = 0 <;> simp [h1, h2]
      have hcell : ∀ i, i < l → IxIn W b (off + i * 3) (f i) := fun i hi => by
        have h1 := (hfp i hi).1
        refine ⟨?_, ?_, ?_⟩
        · have := h1 0 _ rfl; rwa [hat] at this
        · have := h1 1 _ rfl; rwa [hat] at this
        · have := h1 2 _ rfl; rwa [hat] at this
      refine ⟨(List.range l).map f, by simp, hl, hmx', .inr ⟨b, off, rfl, ?_, ?_⟩, ?_⟩
      · exact World.block_lt_of_cell? W _ (hcell 0 (by omega)).1
      · intro i hi
        have hi' : i < l := by simpa using hi
        have e : ((List.range l).map f)[i] = f i := by simp
        rw [e]
        exact hcell i hi'
      · intro y hy
        obtain ⟨i, hi, rfl⟩ := List.mem_map.1 hy
        exact (hfp i (List.mem_range.1 hi)).2

end Go.Proofs.Ytacphlceggbfcaa
end

section
namespace Go.Proofs.Ytacphlceggbfcaa
open Go.RowKit

theorem oK_le : ∀ (ps : List ByteArray), (∀ p ∈ ps, p.size ≤ 1000) → (oK (txts ps)).length ≤ ps.length * 2002
  | [], _ => by simp [txts, oK]
  | p :: ps, h => by
    have h1 := oT_length (txt p)
    have h2 := txt_length p
    have h3 := h p (List.mem_cons_self ..)
    have h4 := oK_le ps fun q hq => h q (List.mem_cons_of_mem _ hq)
    show (oT (txt p) ++ oK (txts ps)).length ≤ _
    rw [List.length_append, List.length_cons]
    omega

theorem key_new (cs : Array Value) (ps : List ByteArray) (hcs : cs = (ps.map Value.string).toArray) (h : ∀ p ∈ ps, p.size ≤ 1000) (hn : ps.length ≤ 100) (n : Nat) (hl : n = ps.length) (W : World) :
    Calls Try.prog 36 #[.slice (some ⟨W.heap.size, 0, none⟩) n n] (W.alloc (.cells cs 9)) fun e w' => e = .returned (.string ⟨(oK (txts ps)).toArray⟩) ∧ Below W.heap.size W w' := by
  subst hl
  have hb0 := (Below.refl _ W).alloc (Nat.le_refl _) (.cells cs 9)
  refine (key_any _ ps.length ps (W.alloc (.cells cs 9)) (.inr ⟨W.heap.size, 0, rfl, by simp, fun i hi => ?_⟩) (by have := oK_le ps h; omega) (by omega)).mono ?_
  · rw [cell_of_row _ _ (0 + i) cs 9 (0, 0) (heap_alloc_new W _), hcs]
    simp [hi]
  · rintro e w' ⟨rfl, hb⟩
    exact ⟨rfl, hb0.trans (hb.mono (by simp))⟩

/-- the tags -/
def tC : ByteArray := ⟨#[99]⟩
def tD : ByteArray := ⟨#[100]⟩
def tI : ByteArray := ⟨#[105]⟩
def kS (ps : List ByteArray) : ByteArray := ⟨(oK (txts ps)).toArray⟩

theorem coll_box (w : World) (nm : ByteArray) (v : Value) : (w.alloc (.cells #[.string nm, v] 51)).cell? ⟨w.heap.size, 0, none⟩ = some (.string nm) := by simp

theorem ckey_any (nm : ByteArray) (v : Value) (hn : nm.size ≤ 1000) (hv : ∃ a l c, v = .slice a l c) (w : World) :
    Calls Try.prog 38 #[.agg #[.string nm, v]] w fun e w' => e = .returned (.string (kS [tC, nm])) ∧ Below w.heap.size w w' := by
  obtain ⟨a, l, c, rfl⟩ := hv
  have hb0 := (Below.refl _ w).alloc (Nat.le_refl _) (.cells #[.string nm, .slice a l c] 51)
  have hk := key_new #[.string ⟨#[99]⟩, .string nm] [tC, nm] rfl (by simp; exact ⟨by decide, hn⟩) (by simp) 2 rfl (w.alloc (.cells #[.string nm, .slice a l c] 51))
  simp only [World.size_alloc] at hk
  have HK := Lib.hid hk
  clear hk
  have HB := Lib.hid hb0
  clear hb0
  go_enter Try.func38, Try.ntmps38
  go_wp2_with fail
  refine HK.out.mono ?_
  rintro e w1 ⟨rfl, hb⟩
  have HB1 := Lib.hid (HB.out.trans (hb.mono (by omega)))
  clear hb
  go_wp2
  go_ret
  exact ⟨rfl, HB1.out⟩

theorem cdocs_any (nm : ByteArray) (v : Value) (hn : nm.size ≤ 1000) (hv : ∃ a l c, v = .slice a l c) (w : World) :
    Calls Try.prog 37 #[.agg #[.string nm, v]] w fun e w' => e = .returned (.string (kS [tD, nm])) ∧ Below w.heap.size w w' := by
  obtain ⟨a, l, c, rfl⟩ := hv
  have hb0 := (Below.refl _ w).alloc (Nat.le_refl _) (.cells #[.string nm, .slice a l c] 51)
  have hk := key_new #[.string ⟨#[100]⟩, .string nm] [tD, nm] rfl (by simp; exact ⟨by decide, hn⟩) (by simp) 2 rfl (w.alloc (.cells #[.string nm, .slice a l c] 51))
  simp only [World.size_alloc] at hk
  have HK := Lib.hid hk
  clear hk
  have HB := Lib.hid hb0
  clear hb0
  go_enter Try.func37, Try.ntmps37
  go_wp2_with fail
  refine HK.out.mono ?_
  rintro e w1 ⟨rfl, hb⟩
  have HB1 := Lib.hid (HB.out.trans (hb.mono (by omega)))
  clear hb
  go_wp2
  go_ret
  exact ⟨rfl, HB1.out⟩

theorem cdoc_any (nm id : ByteArray) (v : Value) (hn : nm.size ≤ 1000) (hi : id.size ≤ 1000) (hv : ∃ a l c, v = .slice a l c) (w : World) :
    Calls Try.prog 34 #[.agg #[.string nm, v], .string id] w fun e w' => e = .returned (.string (kS [tD, nm, id])) ∧ Below w.heap.size w w' := by
  obtain ⟨a, l, c, rfl⟩ := hv
  have hb0 := (Below.refl _ w).alloc (Nat.le_refl _) (.cells #[.string nm, .slice a l c] 51)
  have hk := key_new #[.string ⟨#[100]⟩, .string nm, .string id] [tD, nm, id] rfl (by simp; exact ⟨by decide, hn, hi⟩) (by simp) 3 rfl (w.alloc (.cells #[.string nm, .slice a l c] 51))
  simp only [World.size_alloc] at hk
  have HK := Lib.hid hk
  clear hk
  have HB := Lib.hid hb0
  clear hb0
  go_enter Try.func34, Try.ntmps34
  go_wp2_with fail
  refine HK.out.mono ?_
  rintro e w1 ⟨rfl, hb⟩
  have HB1 := Lib.hid (HB.out.trans (hb.mono (by omega)))
  clear hb
  go_wp2
  go_ret
  exact ⟨rfl, HB1.out⟩

theorem centries_any (nm : ByteArray) (v : Value) (x : Ix) (hn : nm.size ≤ 1000) (hi : x.name.size ≤ 1000) (hv : ∃ a l c, v = .slice a l c) (w : World) :
    Calls Try.prog 35 #[.agg #[.string nm, v], .agg #[.string x.name, .string x.field, .bool x.uniq]] w fun e w' => e = .returned (.string (kS [tI, nm, x.name])) ∧ Below w.heap.size w w' := by
  obtain ⟨a, l, c, rfl⟩ := hv
  obtain ⟨xn, xf, xu⟩ := x
  have hb0 := ((Below.refl _ w).alloc (Nat.le_refl _) (.cells #[.string nm, .slice a l c] 51)).alloc (by simp) (.cells #[.string xn, .string xf, .bool xu] 56)
  have hk := key_new #[.string ⟨#[105]⟩, .string nm, .string xn] [tI, nm, xn] rfl (by simp; exact ⟨by decide, hn, hi⟩) (by simp) 3 rfl ((w.alloc (.cells #[.string nm, .slice a l c] 51)).alloc (.cells #[.string xn, .string xf, .bool xu] 56))
  simp only [World.size_alloc] at hk
  have HK := Lib.hid hk
  clear hk
  have HB := Lib.hid hb0
  clear hb0
  go_enter Try.func35, Try.ntmps35
  go_wp2_with fail
  refine HK.out.mono ?_
  rintro e w1 ⟨rfl, hb⟩
  have HB1 := Lib.hid (HB.out.trans (hb.mono (by omega)))
  clear hb
  go_wp2
  go_ret
  exact ⟨rfl, HB1.out⟩

/-- the laws' head -/
theorem head13_any (w : World) : Calls Try.prog 26 #[] w fun e w' => e = .returned (.bool true) ∧ Below w.heap.size w w' := by
  have HK := Lib.hid (ckey_any ⟨#[97]⟩ (.slice none 0 0) (by decide) ⟨_, _, _, rfl⟩ w)
  have HE : Hid (kS [tC, ⟨#[97]⟩] = ⟨#[99, 0, 1, 97, 0, 1]⟩) := Lib.hid (by decide +kernel)
  go_enter Try.func26, Try.ntmps26
  go_wp2_with fail
  refine HK.out.mono ?_
  rintro e w1 ⟨rfl, hb⟩
  rw [HE.out]
  have HB1 := Lib.hid hb
  clear hb
  go_wp2
  go_ret
  exact ⟨rfl, HB1.out⟩

end Go.Proofs.Ytacphlceggbfcaa
end

section
namespace Go.Proofs.Ytacphlceggbfcaa
open Go.RowKit

set_option linter.unusedVariables false
set_option linter.unusedSimpArgs false

/-- the bytes of an entry's key -/
def eB (nm : ByteArray) (x : Ix) (v : V) (id : ByteArray) : List UInt8 := oK (txts [tI, nm, x.name]) ++ v.ob ++ (if x.uniq then [] else oT id.data.toList)

theorem kS_size (ps : List ByteArray) (h : ∀ p ∈ ps, p.size ≤ 1000) (hn : ps.length ≤ 100) : (kS ps).size ≤ 1000000 := by
  have := oK_le ps h
  show (oK (txts ps)).length ≤ _
  omega

set_option maxHeartbeats 8000000 in
set_option maxRecDepth 100000 in
theorem entry_any (nm : ByteArray) (x : Ix) (v : V) (id : ByteArray) (cv : Value) (a1 : Option Addr) (c1 : Nat) (a2 : Option Addr) (c2 : Nat) (hcv : ∃ a l c, cv = .slice a l c) (w : World) {S : Nat → Prop} (hat : v.At w S (.slice a1 v.list.length c1) (.slice a2 v.fields.length c2)) (hok : v.okk) (hob : v.ob.length ≤ 10000000000)
    (hn : nm.size ≤ 1000) (hx : x.name.size ≤ 1000) (hi : id.size ≤ 1000) :
    Calls Try.prog 31 #[.agg #[.string nm, cv], .agg #[.string x.name, .string x.field, .bool x.uniq], .agg #[.int .i64 v.kind, .bool v.yes, .int .i64 v.num, .string v.text, .slice a1 v.list.length c1, .slice a2 v.fields.length c2], .string id] w fun e w' => e = .returned (.string ⟨(eB nm x v id).toArray⟩) ∧ Below w.heap.size w w' := by
  obtain ⟨a, l, c, rfl⟩ := hcv
  have hat1 : v.At w (fun q => q < w.heap.size) (.slice a1 v.list.length c1) (.slice a2 v.fields.length c2) := V.At.move (fun q _ hlt => ⟨hlt, rfl⟩) (Nat.le_refl _) _ (Nat.le_refl _) hat
  have heB : eB nm x v id = (kS [tI, nm, x.name]).data.toList ++ v.ob ++ (if x.uniq then [] else oT id.data.toList) := rfl
  have hks := kS_size [tI, nm, x.name] (by simp; exact ⟨by decide, hn, hx⟩) (by simp)
  have HEN0 : ∀ W, Calls Try.prog 35 #[.agg #[.string nm, .slice a l c], .agg #[.string x.name, .string x.field, .bool x.uniq]] W fun e w' => e = .returned (.string (kS [tI, nm, x.name])) ∧ Below W.heap.size W w' := fun W => centries_any nm (.slice a l c) x hn hx ⟨_, _, _, rfl⟩ W
  obtain ⟨K, hK⟩ : ∃ K, K = kS [tI, nm, x.name] := ⟨_, rfl⟩
  rw [← hK] at heB hks HEN0
  clear hK hat hn hx
  obtain ⟨xn, xf, xu⟩ := x
  have hvv := v
  obtain ⟨k, y, n, t, ll, ff⟩ := v
  simp only [V.kind, V.yes, V.num, V.text, V.list, V.fields] at *
  clear hvv
  obtain ⟨W0, hW0⟩ : ∃ W0, W0 = ((w.alloc (.cells #[.string nm, .slice a l c] 51)).alloc (.cells #[.string xn, .string xf, .bool xu] 56)).alloc (.cells #[.int .i64 k, .bool y, .int .i64 n, .string t, .slice a1 ll.length c1, .slice a2 ff.length c2] 26) := ⟨_, rfl⟩
  have hz0 : W0.heap.size = w.heap.size + 3 := by rw [hW0]; simp
  have hb0 : Below w.heap.size w W0 := by
    rw [hW0]
    exact (((Below.refl _ w).alloc (Nat.le_refl _) _).alloc (by simp) _).alloc (by simp; omega) _
  have hx0 : ∀ i, W0.cell? ⟨w.heap.size, i, none⟩ = (#[.string nm, .slice a l c] : Array Value)[i]? := fun i => by
    rw [hW0]
    exact (World.cell?_of_block (a := ⟨w.heap.size, i, none⟩) ((Below.heap_alloc _ _ _ (by simp; omega)).trans (Below.heap_alloc _ _ _ (by simp)))).trans (cell_of_row _ _ i _ _ (0, 0) (heap_alloc_new w _))
  have hx1 : ∀ i, W0.cell? ⟨w.heap.size + 1, i, none⟩ = (#[.string xn, .string xf, .bool xu] : Array Value)[i]? := fun i => by
    rw [hW0]
    have h9 := heap_alloc_new (w.alloc (.cells #[.string nm, .slice a l c] 51)) (.cells #[.string xn, .string xf, .bool xu] 56)
    rw [World.size_alloc] at h9
    exact (World.cell?_of_block (a := ⟨w.heap.size + 1, i, none⟩) (Below.heap_alloc _ _ _ (by simp))).trans (cell_of_row _ _ i _ _ (0, 0) h9)
  have hx2 : ∀ i, W0.cell? ⟨w.heap.size + 2, i, none⟩ = (#[.int .i64 k, .bool y, .int .i64 n, .string t, .slice a1 ll.length c1, .slice a2 ff.length c2] : Array Value)[i]? := fun i => by
    rw [hW0]
    have h9 := heap_alloc_new ((w.alloc (.cells #[.string nm, .slice a l c] 51)).alloc (.cells #[.string xn, .string xf, .bool xu] 56)) (.cells #[.int .i64 k, .bool y, .int .i64 n, .string t, .slice a1 ll.length c1, .slice a2 ff.length c2] 26)
    rw [World.size_alloc, World.size_alloc] at h9
    exact cell_of_row _ _ i _ _ (0, 0) h9
  have HX : Hid (∀ W, Below W0.heap.size W0 W → Below w.heap.size w W ∧ W0.heap.size ≤ W.heap.size ∧ W.cell? ⟨w.heap.size, 0, none⟩ = some (.string nm) ∧ W.cell? ⟨w.heap.size, 1, none⟩ = some (.slice a l c) ∧ W.cell? ⟨w.heap.size + 1, 0, none⟩ = some (.string xn) ∧ W.cell? ⟨w.heap.size + 1, 1, none⟩ = some (.string xf) ∧ W.cell? ⟨w.heap.size + 1, 2, none⟩ = some (.bool xu) ∧ W.cell? ⟨w.heap.size + 2, 0, none⟩ = some (.int .i64 k) ∧ W.cell? ⟨w.heap.size + 2, 1, none⟩ = some (.bool y) ∧ W.cell? ⟨w.heap.size + 2, 2, none⟩ = some (.int .i64 n) ∧ W.cell? ⟨w.heap.size + 2, 3, none⟩ = some (.string t) ∧ W.cell? ⟨w.heap.size + 2, 4, none⟩ = some (.slice a1 ll.length c1) ∧ W.cell? ⟨w.heap.size + 2, 5, none⟩ = some (.slice a2 ff.length c2)) := Lib.hid fun W hb => by
    have h0 : ∀ i : Nat, W.cell? ⟨w.heap.size, i, none⟩ = (#[.string nm, .slice a l c] : Array Value)[i]? := fun i => (hb.cell (p := ⟨w.heap.size, i, none⟩) (by show w.heap.size < _; omega)).trans (hx0 i)
    have h1 : ∀ i : Nat, W.cell? ⟨w.heap.size + 1, i, none⟩ = (#[.string xn, .string xf, .bool xu] : Array Value)[i]? := fun i => (hb.cell (p := ⟨w.heap.size + 1, i, none⟩) (by show w.heap.size + 1 < _; omega)).trans (hx1 i)
    have h2 : ∀ i : Nat, W.cell? ⟨w.heap.size + 2, i, none⟩ = (#[.int .i64 k, .bool y, .int .i64 n, .string t, .slice a1 ll.length c1, .slice a2 ff.length c2] : Array Value)[i]? := fun i => (hb.cell (p := ⟨w.heap.size + 2, i, none⟩) (by show w.heap.size + 2 < _; omega)).trans (hx2 i)
    exact ⟨hb0.trans (hb.mono (by omega)), hb.size, h0 0, h0 1, h1 0, h1 1, h1 2, h2 0, h2 1, h2 2, h2 3, h2 4, h2 5⟩
  have HEN : Hid (∀ W, Calls Try.prog 35 #[.agg #[.string nm, .slice a l c], .agg #[.string xn, .string xf, .bool xu]] W fun e w' => e = .returned (.string K) ∧ Below W.heap.size W w') := Lib.hid HEN0
  -- what comes of the conversion and of ord.Val
  have HV : Hid (∀ w5, Below W0.heap.size W0 w5 → ∃ v3 w6, (convert 9 44 (.string K)).run Try.prog w5 = .ok v3 w6 ∧ Below w5.heap.size w5 w6 ∧
      Hid (Calls Try.prog 22 #[v3, .agg #[.int .i64 k, .bool y, .int .i64 n, .string t, .slice a1 ll.length c1, .slice a2 ff.length c2]] w6 fun e w7 => ∃ v7, e = .returned v7 ∧ Below w5.heap.size w5 w7 ∧ Hid (bsG.Bs 5 w5.heap.size w7 v7 (K.data.toList ++ (V.mk k y n t ll ff).ob)))) := Lib.hid fun w5 hb5 => by
    obtain ⟨v3, w6, hr, hbs, hb6⟩ := bsG.made w5 K hks
    have hbw := hb0.trans (hb5.mono (by omega))
    refine ⟨v3, w6, hr, hb6, Lib.hid ?_⟩
    have hat6 : (V.mk k y n t ll ff).At w6 (fun q => q < w5.heap.size) (.slice a1 ll.length c1) (.slice a2 ff.length c2) := V.At.move (fun q hq hlt => ⟨Nat.lt_of_lt_of_le hlt hbw.size, ((hbw.trans (hb6.mono hbw.size)).block q hlt)⟩) (hbw.trans (hb6.mono hbw.size)).size _ (Nat.le_refl _) hat1
    have hKl : K.data.toList.length = K.size := by rw [Array.length_toList]; rfl
    refine (bsG.oval_all _ (V.mk k y n t ll ff) _ _ w5.heap.size v3 _ w6 (Nat.le_refl _) hok hat6 hb6.size hbs (by omega)).mono ?_
    rintro e w7 ⟨v7, rfl, h7, hu7⟩
    exact ⟨v7, rfl, hb6.trans (bsG.upBelow hu7 hbs hb6.size), Lib.hid h7⟩
  have HT : Hid (∀ B w7 v7, B ≤ w7.heap.size → bsG.Bs 5 B w7 v7 (K.data.toList ++ (V.mk k y n t ll ff).ob) → Calls Try.prog 56 #[v7, .string id] w7 fun e w8 => ∃ v8, e = .returned v8 ∧ Below B w7 w8 ∧ Hid (bsG.Bs 5 B w8 v8 (K.data.toList ++ (V.mk k y n t ll ff).ob ++ oT id.data.toList))) := Lib.hid fun B w7 v7 hB h7 => by
    have hKl : K.data.toList.length = K.size := by rw [Array.length_toList]; rfl
    refine (bsG.otext_any B v7 _ id w7 (by rw [List.length_append]; omega) hB h7).mono ?_
    rintro e w8 ⟨v8, rfl, h8, hu8⟩
    exact ⟨v8, rfl, bsG.upBelow hu8 h7 hB, Lib.hid h8⟩
  have HCV : Hid (∀ B w7 v7 L, bsG.Bs 5 B w7 v7 L → (convert 44 9 v7).run Try.prog w7 = .ok (.string ⟨L.toArray⟩) w7) := Lib.hid fun B w7 v7 L h7 => bsG.conv_bs (P := Try.prog) 5 B w7 44 9 Try.underlying44 Try.underlying5 Try.underlying9 v7 _ h7
  have HE := Lib.hid heB
  have HB0 : Hid (Below W0.heap.size W0 W0.drew) := Lib.hid (Below.refl _ W0).drew
  generalize hOB : (V.mk k y n t ll ff).ob = OB at HV HT HE
  clear hat1 hok hob hks HEN0 heB hb0 hx0 hx1 hx2 hz0 hOB hi
  go_enter Try.func31, Try.ntmps31
  go_wp2_with fail
  rw [← hW0]
  clear hW0
  have hS0 := (HX.out _ HB0.out).2.2
  refine wp_region_held_drew (S := fun w' => w'.cell? ⟨w.heap.size, 0, none⟩ = some (.string nm) ∧ w'.cell? ⟨w.heap.size, 1, none⟩ = some (.slice a l c) ∧ w'.cell? ⟨w.heap.size + 1, 0, none⟩ = some (.string xn) ∧ w'.cell? ⟨w.heap.size + 1, 1, none⟩ = some (.string xf) ∧ w'.cell? ⟨w.heap.size + 1, 2, none⟩ = some (.bool xu) ∧ w'.cell? ⟨w.heap.size + 2, 0, none⟩ = some (.int .i64 k) ∧ w'.cell? ⟨w.heap.size + 2, 1, none⟩ = some (.bool y) ∧ w'.cell? ⟨w.heap.size + 2, 2, none⟩ = some (.int .i64 n) ∧ w'.cell? ⟨w.heap.size + 2, 3, none⟩ = some (.string t) ∧ w'.cell? ⟨w.heap.size + 2, 4, none⟩ = some (.slice a1 ll.length c1) ∧ w'.cell? ⟨w.heap.size + 2, 5, none⟩ = some (.slice a2 ff.length c2)) (by kernel_rfl) (by exact hS0) (fun hHeld => ?_)
  clear hS0
  refine wpAnyH_take (i := 0) (oi := _) (v := ?_) rfl (by kernel_rfl) (by kernel_rfl) (by kernel_rfl) (fun _ _ _ h => h) (Or.inl ⟨by rfl, ?_⟩) (by assumption) ?_
  rotate_left
  · (intro w' hSw; (try dsimp only at hSw); go_simp; all_goals with_reducible rfl)
  try simp only [Act.put, List.getElem_toArray, List.getElem_cons_zero, List.getElem_cons_succ, List.setIfInBounds_toArray, List.set_cons_zero, List.set_cons_succ]
  refine wpAnyH_take (i := 1) (oi := _) (v := ?_) rfl (by kernel_rfl) (by kernel_rfl) (by kernel_rfl) (fun _ _ _ h => h) (Or.inl ⟨by rfl, ?_⟩) (by assumption) ?_
  rotate_left
  · (intro w' hSw; (try dsimp only at hSw); go_simp; all_goals with_reducible rfl)
  try simp only [Act.put, List.getElem_toArray, List.getElem_cons_zero, List.getElem_cons_succ, List.setIfInBounds_toArray, List.set_cons_zero, List.set_cons_succ]
  refine wpAnyH_take (i := 4) (oi := _) (v := ?_) rfl (by kernel_rfl) (by kernel_rfl) (by kernel_rfl) (fun _ _ _ h => h) (Or.inl ⟨by rfl, ?_⟩) (by assumption) ?_
  rotate_left
  · (intro w' hSw; (try dsimp only at hSw); go_simp; all_goals with_reducible rfl)
  try simp only [Act.put, List.getElem_toArray, List.getElem_cons_zero, List.getElem_cons_succ, List.setIfInBounds_toArray, List.set_cons_zero, List.set_cons_succ]
  refine wpAnyH_ready (rs := [2]) (by kernel_rfl) (by simp) ?_
  refine AllReadyH.cons rfl (fun K hK => ?_) AllReadyH.nil
  go_simp
  refine (HEN.out _).mono ?_
  rintro e w5 ⟨rfl, hb5⟩
  have HB5 := Lib.hid (HB0.out.trans (hb5.mono HB0.out.size))
  have hS5 := (HX.out _ HB5.out).2.2
  have HB5Z : Hid (w.heap.size ≤ w5.heap.size) := Lib.hid (HX.out _ HB5.out).1.size
  obtain ⟨v3, w6, hcv6, hb6, HV6⟩ := HV.out w5 HB5.out
  clear hb5 HV HEN
  refine hK.out _ _ (by exact hS5) (fun hHeld => ?_)
  clear hK K
  try simp only [Act.put, List.getElem_toArray, List.getElem_cons_zero, List.getElem_cons_succ, List.setIfInBounds_toArray, List.set_cons_zero, List.set_cons_succ]
  clear hS5
  refine wpAnyH_ready (rs := [3]) (by kernel_rfl) (by simp) ?_
  refine AllReadyH.cons rfl (fun K hK => ?_) AllReadyH.nil
  go_simp
  have HB6 := Lib.hid (HB5.out.trans (hb6.mono HB5.out.size))
  have hS6 := (HX.out _ HB6.out).2.2
  refine hK.out _ _ (by exact hS6) (fun hHeld => ?_)
  clear hK K
  try simp only [Act.put, List.getElem_toArray, List.getElem_cons_zero, List.getElem_cons_succ, List.setIfInBounds_toArray, List.set_cons_zero, List.set_cons_succ]
  clear hS6 hcv6
  refine wpAnyH_ready (rs := [5]) (by kernel_rfl) (by simp) ?_
  refine AllReadyH.cons rfl (fun K hK => ?_) AllReadyH.nil
  go_simp
  refine HV6.out.mono ?_
  rintro e w7 ⟨v7, rfl, hb7, HBS⟩
  have HB7 := Lib.hid (HB5.out.trans (hb7.mono HB5.out.size))
  have HSZ : Hid (w5.heap.size ≤ w7.heap.size) := Lib.hid hb7.size
  have hS7 := (HX.out _ HB7.out).2.2
  clear hb7 hb6
  refine hK.out _ _ (by exact hS7) (fun hHeld => ?_)
  clear hK K
  try simp only [Act.put, List.getElem_toArray, List.getElem_cons_zero, List.getElem_cons_succ, List.setIfInBounds_toArray, List.set_cons_zero, List.set_cons_succ]
  clear hS7
  refine wpAnyH_take (i := 6) (oi := _) (v := ?_) rfl (by kernel_rfl) (by kernel_rfl) (by kernel_rfl) (fun _ _ _ h => h) (Or.inl ⟨by rfl, ?_⟩) (by assumption) ?_
  rotate_left
  · (intro w' hSw; (try dsimp only at hSw); go_simp; all_goals with_reducible rfl)
  try simp only [Act.put, List.getElem_toArray, List.getElem_cons_zero, List.getElem_cons_succ, List.setIfInBounds_toArray, List.set_cons_zero, List.set_cons_succ]
  refine wpAnyH_done (by kernel_rfl) ?_ _
  obtain ⟨hbw7, hz7, z0, z1, z2, z3, z4, z5, z6, z7, z8, z9, z10⟩ := HX.out _ HB7.out
  have HBW7 := Lib.hid hbw7
  have HZ7 := Lib.hid hz7
  clear hbw7 hz7
  cases xu with
  | true =>
    have hcv := HCV.out _ _ _ _ HBS.out
    go_wp2
    go_ret
    exact ⟨by rw [HE.out]; simp, HBW7.out⟩
  | false =>
    have HT7 := Lib.hid (HT.out _ _ _ HSZ.out HBS.out)
    clear HT
    go_wp2_with fail
    refine HT7.out.mono ?_
    rintro e w8 ⟨v8, rfl, hb8, HBS8⟩
    have hcv := HCV.out _ _ _ _ HBS8.out
    have HB8 := Lib.hid (HBW7.out.trans (hb8.mono HB5Z.out))
    clear hb8 z0 z1 z2 z3 z4 z5 z6 z7 z8 z9 z10
    go_wp2
    go_ret
    exact ⟨by rw [HE.out]; simp, HB8.out⟩

end Go.Proofs.Ytacphlceggbfcaa
end

section
namespace Go.Proofs.Ytacphlceggbfcaa
open Go.ChangeShapes Go.WideShapes Go.ChangeAt Go.RowKit Go.Deep Go.Joins

set_option linter.unusedVariables false
set_option linter.unusedSimpArgs false

def fewI (x : Ix) : Bool := decide (x.name.size ≤ 60) && decide (x.field.size ≤ 60)
def fewCo (nm : ByteArray) (xs : List Ix) : Bool := xs.all fewI && decide (xs.length ≤ 12) && decide (nm.size ≤ 60)
theorem fewCo_of {nm : ByteArray} {xs : List Ix} (h : fewCo nm xs = true) : nm.size ≤ 60 ∧ xs.length ≤ 12 ∧ ∀ x ∈ xs, x.name.size ≤ 60 ∧ x.field.size ≤ 60 := by
  unfold fewCo at h
  simp only [Bool.and_eq_true, decide_eq_true_eq, List.all_eq_true] at h
  refine ⟨h.2, h.1.2, fun x hx => ?_⟩
  have := h.1.1 x hx
  unfold fewI at this
  simpa using this

set_option maxHeartbeats 4000000 in
set_option maxRecDepth 100000 in
theorem cfew_any {w : World} {a : Option Addr} {len cap : Nat} {xs : List Ix} (h : IxsIs w a xs) (hl : xs.length = len) (hle : len ≤ 9223372036854775807) (nm : ByteArray) :
    Calls Try.prog 30 #[.agg #[.string nm, .slice a len cap]] w fun e w' => e = .returned (.bool (fewCo nm xs)) ∧ Below w.heap.size w w' := by
  have HW := Lib.hid h
  have HL := Lib.hid hl
  have hb0 := (Below.refl _ w).alloc (Nat.le_refl _) (.cells #[.string nm, .slice a len cap] 51)
  have hx1 : ∀ i, (w.alloc (.cells #[.string nm, .slice a len cap] 51)).cell? ⟨w.heap.size, i, none⟩ = (#[.string nm, .slice a len cap] : Array Value)[i]? := fun i => cell_of_row _ _ i _ _ (0, 0) (heap_alloc_new w _)
  obtain ⟨w0, hw0⟩ : ∃ w0, w0 = (w.alloc (.cells #[.string nm, .slice a len cap] 51)) := ⟨_, rfl⟩
  have hz0 : w0.heap.size = w.heap.size + 1 := by rw [hw0]; simp
  rw [← hw0] at hx1 hb0
  have HX : Hid (∀ W, Below w0.heap.size w0 W → Below w.heap.size w W ∧ W.cell? ⟨w.heap.size, 0, none⟩ = some (.string nm) ∧ W.cell? ⟨w.heap.size, 1, none⟩ = some (.slice a len cap)) := Lib.hid fun W hb =>
    ⟨hb0.trans (hb.mono (by omega)), (hb.cell (p := ⟨w.heap.size, 0, none⟩) (by show w.heap.size < _; omega)).trans (hx1 0), (hb.cell (p := ⟨w.heap.size, 1, none⟩) (by show w.heap.size < _; omega)).trans (hx1 1)⟩
  have HF : Hid (∀ k (hk : k < xs.length), fewI xs[k] = false → fewCo nm xs = false) := Lib.hid fun k hk hf => by
    unfold fewCo
    rw [show xs.all fewI = false from by rw [List.all_eq_false]; exact ⟨xs[k], List.getElem_mem hk, by rw [hf]; simp⟩]
    rfl
  have HT : Hid ((∀ k (hk : k < xs.length), fewI xs[k] = true) → fewCo nm xs = (decide (len ≤ 12) && decide (nm.size ≤ 60))) := Lib.hid fun hh => by
    unfold fewCo
    rw [show xs.all fewI = true from by rw [List.all_eq_true]; intro x hx; obtain ⟨i, hi, rfl⟩ := List.getElem_of_mem hx; exact hh i hi, hl]
    rfl
  obtain ⟨r, hr⟩ : ∃ r, r = fewCo nm xs := ⟨_, rfl⟩
  rw [← hr] at HF HT ⊢
  have HLE := Lib.hid hle
  clear h hl hb0 hx1 hz0 hr hle
  obtain ⟨_, y0, y1⟩ := HX.out w0 (Below.refl _ _)
  go_enter Try.func30, Try.ntmps30
  go_wp2_with fail
  rw [← hw0]
  clear hw0 y0 y1
  go_loopw [8] (fun i wr => ∃ k : Nat, k ≤ len ∧ i = .int .i64 (k : Int) ∧ Hid ((∀ i (hi : i < xs.length), i < k → fewI xs[i] = true) ∧ Below w0.heap.size w0 wr)) (fun i _ => len - (intOf i).toNat)
  case atStart => exact ⟨0, Nat.zero_le _, rfl, Lib.hid ⟨fun i _ h => by omega, Below.refl _ _⟩⟩
  case round =>
    obtain ⟨k, hk, rfl, hst⟩ := hrel
    obtain ⟨hbw, y0, y1⟩ := HX.out wr hst.out.2
    by_cases hlt : k < len
    · have hk2 : k < xs.length := by rw [HL.out]; exact hlt
      obtain ⟨b, off, rfl, hb, hin, _⟩ := HW.out.at_ k hk2
      have HFk := Lib.hid (HF.out k hk2)
      have HBA : Hid (∀ c, Below w0.heap.size w0 (wr.alloc c)) := Lib.hid fun c => hst.out.2.alloc hst.out.2.size _
      have HPR := Lib.hid hst.out.1
      have hfe : fewI xs[k] = (decide (xs[k].name.size ≤ 60) && decide (xs[k].field.size ≤ 60)) := rfl
      have HXS : Hid (∀ y, y = xs[k] → fewI y = true → ∀ i (hi : i < xs.length), i < k + 1 → fewI xs[i] = true) := Lib.hid fun y hy hf i hi hik => by
        by_cases hh : i = k
        · subst hh; rw [← hy]; exact hf
        · exact HPR.out i hi (by omega)
      obtain ⟨x, hx⟩ : ∃ x, x = xs[k] := ⟨_, rfl⟩
      have HXS2 := Lib.hid (HXS.out x hx)
      rw [← hx] at hin hfe HFk
      have hin2 : IxIn wr b (off + k * 3) x := by
        obtain ⟨h0, h1, h2⟩ := hin
        exact ⟨(hbw.cell (p := ⟨b, _, none⟩) hb).trans h0, (hbw.cell (p := ⟨b, _, none⟩) hb).trans h1, (hbw.cell (p := ⟨b, _, none⟩) hb).trans h2⟩
      obtain ⟨q0, q1, q2⟩ := hin2
      have HWR : Hid (wrap64 ((k : Int) + 1) = ((k + 1 : Nat) : Int)) := Lib.hid (by have := HLE.out; unfold wrap64; omega)
      have hkm : (k : Int) < 9223372036854775807 := by have := HLE.out; omega
      have HLT := Lib.hid hlt
      have HFE := Lib.hid hfe
      clear hin hb hfe hst hx HXS HPR hbw HT HF HW
      by_cases h1 : x.name.size ≤ 60
      · have h1I : ¬ (60 : Int) < (x.name.size : Int) := by omega
        by_cases h2 : x.field.size ≤ 60
        · have h2I : ¬ (60 : Int) < (x.field.size : Int) := by omega
          have HOK : Hid (fewI x = true) := Lib.hid (by rw [HFE.out]; simp [h1, h2])
          go_wp2_with fail
          go_roundw
          case rel => exact ⟨k + 1, HLT.out, by (try rw [HWR.out]); (try go_num), Lib.hid ⟨HXS2.out HOK.out, HBA.out _⟩⟩
          case measure => have h5 := HLT.out; have h6 := HWR.out; simp [intOf]; omega
        · have h2I : (60 : Int) < (x.field.size : Int) := by omega
          have HR : Hid (r = false) := Lib.hid (HFk.out (by rw [HFE.out]; simp [h2]))
          go_wp2
          go_ret
          exact ⟨by rw [HR.out]; rfl, (HX.out _ (HBA.out _)).1⟩
      · have h1I : (60 : Int) < (x.name.size : Int) := by omega
        have HR : Hid (r = false) := Lib.hid (HFk.out (by rw [HFE.out]; simp [h1]))
        go_wp2
        go_ret
        exact ⟨by rw [HR.out]; rfl, (HX.out _ (HBA.out _)).1⟩
    · obtain rfl : k = len := by omega
      have HR : Hid (r = (decide (k ≤ 12) && decide (nm.size ≤ 60))) := Lib.hid (HT.out fun i hi => hst.out.1 i hi (by have := HL.out; omega))
      have HB := Lib.hid hbw
      clear hlt hbw hst HT HF HX HW
      by_cases h1 : k ≤ 12
      · have h1I : (k : Int) ≤ 12 := by omega
        by_cases h2 : nm.size ≤ 60
        · have h2I : (nm.size : Int) ≤ 60 := by omega
          go_wp2
          go_ret
          exact ⟨by rw [HR.out]; simp [h1, h2], HB.out⟩
        · have h2I : ¬ (nm.size : Int) ≤ 60 := by omega
          go_wp2
          go_ret
          exact ⟨by rw [HR.out]; simp [h1, h2], HB.out⟩
      · have h1I : ¬ (k : Int) ≤ 12 := by omega
        go_wp2
        go_ret
        exact ⟨by rw [HR.out]; simp [h1], HB.out⟩

theorem cellsCo : Try.prog.cellsOf 51 = 2 := by kernel_rfl

set_option maxRecDepth 100000 in
/-- a collection among a law's arguments -/
theorem coll_arg {H : Type} {enc : TypeId × Value → H} {W : World} {base : Nat} {sp : Nat → Bool} {held : Bool} {v : Value} {d : DataW H} {ps : List MemPlace}
    (h : DataW.Trod enc Try.prog W base sp held 51 v d ps) : ∃ nm a len cap, v = .agg #[.string nm, .slice a len cap] ∧ nm.size ≤ maxLen ∧ ∃ xs, IxsCame W a len cap xs := by
  obtain ⟨fuel, hf⟩ := h
  obtain ⟨y0, y1, m, _, hl, h0, h1⟩ := trod_struct2 Try.underlying51 hf
  rw [cellsCo] at hl
  obtain ⟨cs, hcs⟩ : ∃ cs, cs = v.cells.toList := ⟨_, rfl⟩
  have hl' : cs.length = 2 := by rw [hcs]; simpa using hl
  obtain ⟨c0, c1, hc3⟩ : ∃ c0 c1, cs = [c0, c1] := by
    rcases cs with _ | ⟨c0, _ | ⟨c1, _ | ⟨c2, r⟩⟩⟩
    · simp at hl'
    · simp at hl'
    · exact ⟨c0, c1, rfl⟩
    · simp at hl'
  rw [← hcs, hc3] at h0 h1
  obtain ⟨nm, e0, _, z0⟩ := DataW.trod_string Try.underlying9 h0
  obtain ⟨a, len, cap, e2, hws⟩ := ixs_trod h1
  refine ⟨nm, a, len, cap, ?_, z0, hws⟩
  have f0 : c0 = .string nm := by
    have : [c0] = [.string nm] := e0
    simpa using this
  have f2 : c1 = .slice a len cap := by
    have : [c1] = [.slice a len cap] := e2
    simpa using this
  rw [f0, f2] at hc3
  cases v with
  | agg as' =>
    have hc : as'.toList = [.string nm, .slice a len cap] := by rw [← hc3, hcs]; simp [Value.cells]
    rw [show as' = #[.string nm, .slice a len cap] by rw [← Array.toList_inj]; exact hc]
  | _ => exfalso; rw [hc3] at hcs; simp [Value.cells] at hcs

set_option maxRecDepth 100000 in
/-- an index among a law's arguments -/
theorem index_arg {H : Type} {enc : TypeId × Value → H} {W : World} {base : Nat} {sp : Nat → Bool} {held : Bool} {v : Value} {d : DataW H} {ps : List MemPlace}
    (h : DataW.Trod enc Try.prog W base sp held 56 v d ps) : ∃ x : Ix, v = .agg #[.string x.name, .string x.field, .bool x.uniq] ∧ x.name.size ≤ maxLen ∧ x.field.size ≤ maxLen := by
  obtain ⟨fuel, hf⟩ := h
  obtain ⟨x, hx, h1, h2⟩ := ix_of hf
  refine ⟨x, ?_, h1, h2⟩
  cases v with
  | agg as' =>
    have hc : as'.toList = ixcells x := by rw [← hx]; simp [Value.cells]
    rw [show as' = (ixcells x).toArray by rw [← hc]]
    rfl
  | _ => exfalso; simp [Value.cells, ixcells] at hx

theorem begK_any (s t : ByteArray) (w : World) :
    Calls Try.prog 32 #[.string s, .string t] w fun e w' => e = .returned (.bool (ordVals.begB s.data.toList t.data.toList)) ∧ w = w' := by
  by_cases h : t.size ≤ s.size
  · have h' : ¬ (s.size : Int) < (t.size : Int) := by omega
    have hb := ordVals.begB_take s.data.toList t.data.toList
    rw [show t.data.toList.length = t.size by rw [Array.length_toList]; rfl] at hb
    have HB := Lib.hid hb
    clear hb
    go_enter Try.func32, Try.ntmps32
    go_wp2
    go_ret
    refine ⟨?_, rfl⟩
    rw [HB.out]
    congr 2; simp [Lib.toList_data]
  · have h' : (s.size : Int) < (t.size : Int) := by omega
    have hb : ordVals.begB s.data.toList t.data.toList = false := by
      unfold ordVals.begB
      rw [decide_eq_false_iff_not]
      intro k
      have := k.length_le
      rw [Array.length_toList, Array.length_toList] at this
      exact h this
    have HB := Lib.hid hb
    clear hb
    go_enter Try.func32, Try.ntmps32
    go_wp2
    go_ret
    exact ⟨by rw [HB.out]; rfl, rfl⟩

theorem begP_any (s t : ByteArray) (w : World) :
    Calls Try.prog 39 #[.string s, .string t] w fun e w' => e = .returned (.bool (ordVals.begB s.data.toList t.data.toList)) ∧ w = w' := by
  by_cases h : t.size ≤ s.size
  · have h' : ¬ (s.size : Int) < (t.size : Int) := by omega
    have hb := ordVals.begB_take s.data.toList t.data.toList
    rw [show t.data.toList.length = t.size by rw [Array.length_toList]; rfl] at hb
    have HB := Lib.hid hb
    clear hb
    go_enter Try.func39, Try.ntmps39
    go_wp2
    go_ret
    refine ⟨?_, rfl⟩
    rw [HB.out]
    congr 2; simp [Lib.toList_data]
  · have h' : (s.size : Int) < (t.size : Int) := by omega
    have hb : ordVals.begB s.data.toList t.data.toList = false := by
      unfold ordVals.begB
      rw [decide_eq_false_iff_not]
      intro k
      have := k.length_le
      rw [Array.length_toList, Array.length_toList] at this
      exact h this
    have HB := Lib.hid hb
    clear hb
    go_enter Try.func39, Try.ntmps39
    go_wp2
    go_ret
    exact ⟨by rw [HB.out]; rfl, rfl⟩

end Go.Proofs.Ytacphlceggbfcaa
end
