/-
  ord.Val's bytes of a value, plainly: their order is that of the values.
  ord.Val: a value's bytes behind what a slice of the call's own holds.
  ord.Val of a list, of a map; of any value.
  What the walk of mailbaglaw03.OrdVals asks: how long bytes are, what begins with what, the row that is laid.
  The walk of mailbaglaw03.OrdVals.
  A value as an argument: its six cells.
-/
import Derived.Test.YtmodegncifopaaaVOrds
import Derived.Test.YtmodegncifopaaaOKey
import Derived.Outline
import Derived.Deep.RegionHeld3
import Derived.Test.YtmodegncifopaaaRowB
import Derived.Test.YtmodegncifopaaaVFew
import Derived.Deep.DeepCutAuto
import Derived.Laws.OwnMore
import Derived.Test.YtmodegncifopaaaValMem
section
namespace Go.Proofs.Ytmodegncifopaaa
open Go.RowKit

mutual
/-- the bytes of a value in a key -/
def V.ob : V → L8
  | .mk k y n t l f => UInt8.ofNat (k + 2).toNat :: (if k = 1 then [if y then 3 else 2] else if k = 2 then oI n else if k = 3 then oT t.data.toList else if k = 4 then obL l ++ [1] else if k = 5 then obF f ++ [1] else [])
def obL : List V → L8
  | [] => []
  | v :: l => v.ob ++ obL l
def obF : List (ByteArray × V) → L8
  | [] => []
  | p :: l => (2 :: (oT p.1.data.toList ++ V.ob p.2)) ++ obF l
end

theorem obL_append (a b : List V) : obL (a ++ b) = obL a ++ obL b := by
  induction a with
  | nil => rfl
  | cons v a ih => rw [List.cons_append, obL, obL, ih, List.append_assoc]
theorem obF_append (a b : List Fd) : obF (a ++ b) = obF a ++ obF b := by
  induction a with
  | nil => rfl
  | cons v a ih => rw [List.cons_append, obF, obF, ih, List.append_assoc]
theorem obL_take (l : List V) (j : Nat) (h : j < l.length) : obL (l.take (j + 1)) = obL (l.take j) ++ (l[j]).ob := by
  rw [List.take_succ_eq_append_getElem h, obL_append]
  simp [obL]
theorem obF_take (l : List Fd) (j : Nat) (h : j < l.length) : obF (l.take (j + 1)) = obF (l.take j) ++ (2 :: (oT (l[j]).1.data.toList ++ (l[j]).2.ob)) := by
  rw [List.take_succ_eq_append_getElem h, obF_append]
  simp [obF]
theorem obL_le (l : List V) (j : Nat) : (obL (l.take j)).length ≤ (obL l).length := by
  have h : obL l = obL (l.take j) ++ obL (l.drop j) := by rw [← obL_append, List.take_append_drop]
  rw [h, List.length_append]; omega
theorem obF_le (l : List Fd) (j : Nat) : (obF (l.take j)).length ≤ (obF l).length := by
  have h : obF l = obF (l.take j) ++ obF (l.drop j) := by rw [← obF_append, List.take_append_drop]
  rw [h, List.length_append]; omega

/-- a comparison of bytes that goes on behind what is alike -/
theorem cmpL_cons (a b : UInt8) (x y : L8) : cmpL (a :: x) (b :: y) = if a.toNat < b.toNat then -1 else if b.toNat < a.toNat then 1 else cmpL x y := by
  unfold cmpL
  simp only [lt_cons]
  by_cases h1 : a.toNat < b.toNat
  · simp [h1]
  · by_cases h2 : b.toNat < a.toNat
    · have h3 : ¬ a.toNat = b.toNat := by omega
      simp [h1, h2, h3]
    · have h3 : a.toNat = b.toNat := by omega
      simp [h3]

/-- then: the first unlike decides -/
def thn (c d : Int) : Int := if c ≠ 0 then c else d

theorem kind_byte {k : Int} (h0 : 0 ≤ k) (h5 : k ≤ 5) : (UInt8.ofNat (k + 2).toNat).toNat = (k + 2).toNat := by
  simp; omega

theorem pl_kind {v : V} (h : v.pl) : 0 ≤ v.kind ∧ v.kind ≤ 5 := by
  cases h <;> simp [V.null, V.ofBool, V.ofInt, V.ofText, V.ofList, V.ofMap, V.kind]

theorem ob_cons (v : V) : ∃ x, v.ob = UInt8.ofNat (v.kind + 2).toNat :: x := by
  obtain ⟨k, y, n, t, l, f⟩ := v
  exact ⟨_, by rw [V.ob]; rfl⟩

theorem obL_cmp {N : Nat} (ih : ∀ a b r s, a.dep ≤ N → a.pl → b.pl → a.n64 → b.n64 → cmpL (V.ob a ++ r) (V.ob b ++ s) = thn (a.cmp b) (cmpL r s)) :
    ∀ (l m : List V) (r s : L8), (∀ x ∈ l, x.dep ≤ N ∧ x.pl ∧ x.n64) → (∀ x ∈ m, x.pl ∧ x.n64) → cmpL (obL l ++ 1 :: r) (obL m ++ 1 :: s) = thn (lexL V.cmp l m) (cmpL r s)
  | [], [], r, s, _, _ => by rw [lexL, obL]; simp [thn, cmpL_cons]
  | [], y :: ys, r, s, _, hm => by
    obtain ⟨x, hx⟩ := ob_cons y
    have hk := pl_kind (hm y (List.mem_cons_self ..)).1
    rw [lexL, obL, obL, hx, List.cons_append, List.cons_append, List.nil_append, cmpL_cons, kind_byte hk.1 hk.2, if_pos (by simp; omega)]
    simp [thn]
  | x :: xs, [], r, s, hl, _ => by
    obtain ⟨z, hz⟩ := ob_cons x
    have hk := pl_kind (hl x (List.mem_cons_self ..)).2.1
    rw [lexL, obL, obL, hz, List.cons_append, List.cons_append, List.nil_append, cmpL_cons, kind_byte hk.1 hk.2, if_neg (by simp; omega), if_pos (by simp; omega)]
    simp [thn]
  | x :: xs, y :: ys, r, s, hl, hm => by
    have h1 := hl x (List.mem_cons_self ..)
    have h2 := hm y (List.mem_cons_self ..)
    rw [lexL, obL, obL, List.append_assoc, List.append_assoc, ih x y _ _ h1.1 h1.2.1 h2.1 h1.2.2 h2.2,
      obL_cmp ih xs ys r s (fun z hz => hl z (List.mem_cons_of_mem _ hz)) (fun z hz => hm z (List.mem_cons_of_mem _ hz))]
    unfold thn
    by_cases h : x.cmp y = 0
    · simp [h]
    · simp [h]

theorem obF_cmp {N : Nat} (ih : ∀ a b r s, a.dep ≤ N → a.pl → b.pl → a.n64 → b.n64 → cmpL (V.ob a ++ r) (V.ob b ++ s) = thn (a.cmp b) (cmpL r s)) :
    ∀ (l m : List Fd) (r s : L8), (∀ x ∈ l, x.2.dep ≤ N ∧ x.2.pl ∧ x.2.n64) → (∀ x ∈ m, x.2.pl ∧ x.2.n64) → cmpL (obF l ++ 1 :: r) (obF m ++ 1 :: s) = thn (lexL cmpFd l m) (cmpL r s)
  | [], [], r, s, _, _ => by rw [lexL, obF]; simp [thn, cmpL_cons]
  | [], y :: ys, r, s, _, _ => by
    rw [lexL, obF, obF, List.cons_append, List.cons_append, List.nil_append, cmpL_cons, if_pos (by decide)]
    simp [thn]
  | x :: xs, [], r, s, _, _ => by
    rw [lexL, obF, obF, List.cons_append, List.cons_append, List.nil_append, cmpL_cons, if_neg (by decide), if_pos (by decide)]
    simp [thn]
  | x :: xs, y :: ys, r, s, hl, hm => by
    have h1 := hl x (List.mem_cons_self ..)
    have h2 := hm y (List.mem_cons_self ..)
    have hr := obF_cmp ih xs ys r s (fun z hz => hl z (List.mem_cons_of_mem _ hz)) (fun z hz => hm z (List.mem_cons_of_mem _ hz))
    rw [lexL, obF, obF, List.cons_append, List.cons_append, List.cons_append, List.cons_append, cmpL_cons, if_neg (by decide), if_neg (by decide), List.append_assoc, List.append_assoc, List.append_assoc, List.append_assoc, cmpL_oT, ih x.2 y.2 _ _ h1.1 h1.2.1 h2.1 h1.2.2 h2.2, hr, cmpFd_eq]
    by_cases hn : x.1.data.toList = y.1.data.toList
    · rw [if_pos hn, hn, cmpL_self]
      unfold thn
      by_cases h : x.2.cmp y.2 = 0
      · simp [h]
      · simp [h]
    · have hne : cmpL x.1.data.toList y.1.data.toList ≠ 0 := fun h => hn (cmpL_zero.1 h)
      rw [if_neg hn]
      simp [thn, hne]

theorem ob_cmp : ∀ (N : Nat) (a b : V) (r s : L8), a.dep ≤ N → a.pl → b.pl → a.n64 → b.n64 → cmpL (a.ob ++ r) (b.ob ++ s) = thn (a.cmp b) (cmpL r s)
  | 0, a, _, _, _, hd, _, _, _, _ => by cases a; rw [V.dep] at hd; omega
  | N + 1, a, b, r, s, hd, ha, hb, na, nb => by
    have ka := pl_kind ha
    have kb := pl_kind hb
    by_cases hk : a.kind = b.kind
    · have hdl : ∀ x ∈ a.list, x.dep ≤ N := fun x hx => by have := dep_list hx; omega
      have hdf : ∀ p ∈ a.fields, p.2.dep ≤ N := fun p hp => by have := dep_fields hp; omega
      cases ha <;> cases hb <;> first
        | (exfalso; simp [V.null, V.ofBool, V.ofInt, V.ofText, V.ofList, V.ofMap, V.kind] at hk; done)
        | skip
      · rw [cmp_other V.null V.null rfl (by simp [V.null, V.kind]) (by simp [V.null, V.kind]) (by simp [V.null, V.kind]) (by simp [V.null, V.kind]) (by simp [V.null, V.kind])]
        simp [V.null, V.ob, thn, cmpL_cons]
      · rename_i a b
        rw [cmp_bool (V.ofBool a) (V.ofBool b) rfl rfl]
        cases a <;> cases b <;> simp [V.ofBool, V.ob, thn, cmpL_cons, V.yes, cmpYes]
      · rename_i a b
        rw [cmp_int (V.ofInt a) (V.ofInt b) rfl rfl]
        have e : ∀ n, (V.ofInt n).ob = 4 :: oI n := fun n => by simp [V.ofInt, V.ob]
        have en : ∀ n, (V.ofInt n).num = n := fun n => rfl
        rw [e, e, en, en, List.cons_append, List.cons_append, cmpL_cons, if_neg (by decide), if_neg (by decide), cmpL_oI na.1 nb.1]
        unfold thn cmpI
        by_cases h1 : a < b
        · simp [h1]
        · by_cases h2 : b < a
          · simp [h1, h2]
          · simp [h1, h2]
      · rename_i a b
        rw [cmp_text (V.ofText a) (V.ofText b) rfl rfl]
        have e : ∀ t, (V.ofText t).ob = 5 :: oT t.data.toList := fun t => by simp [V.ofText, V.ob]
        have en : ∀ t, (V.ofText t).text = t := fun t => rfl
        rw [e, e, en, en, List.cons_append, List.cons_append, cmpL_cons, if_neg (by decide), if_neg (by decide), cmpL_oT]
        unfold thn
        by_cases h : a.data.toList = b.data.toList
        · rw [if_pos h, h, cmpL_self]; simp
        · rw [if_neg h, if_pos (fun e => h (cmpL_zero.1 e))]
      · rename_i a ha b hb
        rw [cmp_list (V.ofList a) (V.ofList b) rfl rfl, show (V.ofList a).list = a from rfl, show (V.ofList b).list = b from rfl, cmpVs_lex]
        have h1 := n64L_iff.1 na.2.1
        have h2 := n64L_iff.1 nb.2.1
        have h := obL_cmp (ob_cmp N) a b r s (fun x hx => ⟨hdl x hx, ha x hx, h1 x hx⟩) (fun x hx => ⟨hb x hx, h2 x hx⟩)
        rw [← h]
        simp [V.ofList, V.ob, cmpL_cons]
      · rename_i a ha b hb
        rw [cmp_map (V.ofMap a) (V.ofMap b) rfl rfl, show (V.ofMap a).fields = a from rfl, show (V.ofMap b).fields = b from rfl, cmpFs_lex]
        have h1 := n64F_iff.1 na.2.2
        have h2 := n64F_iff.1 nb.2.2
        have h := obF_cmp (ob_cmp N) a b r s (fun x hx => ⟨hdf x hx, ha x hx, h1 x hx⟩) (fun x hx => ⟨hb x hx, h2 x hx⟩)
        rw [← h]
        simp [V.ofMap, V.ob, cmpL_cons]
    · obtain ⟨x, hx⟩ := ob_cons a
      obtain ⟨y, hy⟩ := ob_cons b
      rw [cmp_kinds _ _ hk, hx, hy, List.cons_append, List.cons_append, cmpL_cons, kind_byte ka.1 ka.2, kind_byte kb.1 kb.2]
      unfold thn cmpI
      by_cases h1 : a.kind < b.kind
      · rw [if_pos (show (a.kind + 2).toNat < (b.kind + 2).toNat by omega)]; simp [h1]
      · have h2 : b.kind < a.kind := by omega
        rw [if_neg (show ¬ (a.kind + 2).toNat < (b.kind + 2).toNat by omega), if_pos (show (b.kind + 2).toNat < (a.kind + 2).toNat by omega)]; simp [h1, h2]

end Go.Proofs.Ytmodegncifopaaa
end

section
namespace Go.Proofs.Ytmodegncifopaaa
open Go.RowKit

/-- what a value's bytes ask of it: kinds and numbers as they may be -/
inductive V.okk : V → Prop
  | mk (k : Int) (y : Bool) (n : Int) (t : ByteArray) (l : List V) (f : List (ByteArray × V)) (hk : 0 ≤ k ∧ k ≤ 5) (hn : Is64 n) (hl : ∀ x ∈ l, V.okk x) (hf : ∀ p ∈ f, V.okk p.2) : V.okk (.mk k y n t l f)

def OVOK (N : Nat) : Prop := ∀ (v : V) (lv fv : Value) (B : Nat) (v0 : Value) (l0 : L8) (w : World), v.dep ≤ N → v.okk → v.At w (fun b => b < B) lv fv → B ≤ w.heap.size → Bs 5 B w v0 l0 → l0.length + 2 * v.ob.length ≤ 140737488350000 →
  Calls Try.prog 34 #[v0, .agg #[.int .i64 v.kind, .bool v.yes, .int .i64 v.num, .string v.text, lv, fv]] w (LaidPost B v0 (l0 ++ v.ob) w)

theorem oflag_any (y : Bool) (w : World) : Calls Try.prog 62 #[.bool y] w fun e w' => e = .returned (.int .u8 (if y then 3 else 2)) ∧ w = w' := by
  cases y
  · go_enter Try.func62, Try.ntmps62
    go_wp2
    go_ret
    exact ⟨rfl, rfl⟩
  · go_enter Try.func62, Try.ntmps62
    go_wp2
    go_ret
    exact ⟨rfl, rfl⟩

theorem Up.under {w : World} {o : Obj} {v w' v'} (h : Up (w.alloc o) v w' v') : Up w v w' v' := h.alloc

set_option maxHeartbeats 4000000 in
set_option maxRecDepth 100000 in
/-- the values that are no list and no map -/
theorem oval_plain (k : Int) (y : Bool) (n : Int) (t : ByteArray) (l : List V) (f : List Fd) (lv fv : Value) (B : Nat) (v0 : Value) (l0 : L8) (w : World) (hk0 : 0 ≤ k) (hk3 : k ≤ 3) (hn : Is64 n)
    (hat : (V.mk k y n t l f).At w (fun b => b < B) lv fv) (hB : B ≤ w.heap.size) (hown : Bs 5 B w v0 l0) (hl : l0.length + 2 * (V.mk k y n t l f).ob.length ≤ 140737488350000) :
    Calls Try.prog 34 #[v0, .agg #[.int .i64 k, .bool y, .int .i64 n, .string t, lv, fv]] w (LaidPost B v0 (l0 ++ (V.mk k y n t l f).ob) w) := by
  obtain ⟨⟨a, c, rfl⟩, ⟨a', c', rfl⟩, _, _⟩ := hat.is.len
  obtain ⟨a0, c0, rfl⟩ := hown.lenEq
  simp only [V.list, V.fields] at *
  have hownB : Bs 5 B (w.alloc (.cells #[.int .i64 k, .bool y, .int .i64 n, .string t, .slice a l.length c, .slice a' f.length c'] 26)) (.slice a0 l0.length c0) l0 := World.ownsRow.alloc hown _
  have hBB : B ≤ (w.alloc (.cells #[.int .i64 k, .bool y, .int .i64 n, .string t, .slice a l.length c, .slice a' f.length c'] 26)).heap.size := by simp; omega
  have hob : Hid ((V.mk k y n t l f).ob = UInt8.ofNat (k + 2).toNat :: (if k = 1 then [if y then 3 else 2] else if k = 2 then oI n else if k = 3 then oT t.data.toList else if k = 4 then obL l ++ [1] else if k = 5 then obF f ++ [1] else [])) := Lib.hid (by rw [V.ob])
  rw [hob.out] at hl
  have HN := Lib.hid hn
  have hkk : k = 0 ∨ k = 1 ∨ k = 2 ∨ k = 3 := by omega
  clear hn hat hk0 hk3
  rcases hkk with rfl | rfl | rfl | rfl
  · simp at hl
    go_enter Try.func34, Try.ntmps34
    go_wp2_with (at_builtin; refine wpList_app1H _ (w.heap.size + 1) (by simp) rfl (.tmp 9) (.tmp 14) 58 rfl 5 B Try.underlying58 infoB _ l0 rfl hownB _ _ rfl (by decide) (by decide) (by omega) hBB ?_; intro v1 w1 hown1 hup1; have hc0 := (box_kept hown hup1 0); have hc1 := (box_kept hown hup1 1); have hc2 := (box_kept hown hup1 2); have hc3 := (box_kept hown hup1 3); simp at hc0 hc1 hc2 hc3)
    go_ret
    exact ⟨v1, rfl, by rw [hob.out]; simpa using hown1, hup1.alloc⟩
  · simp at hl
    go_enter Try.func34, Try.ntmps34
    go_wp2_with (at_builtin; refine wpList_app1H _ (w.heap.size + 1) (by simp) rfl (.tmp 9) (.tmp 14) 58 rfl 5 B Try.underlying58 infoB _ l0 rfl hownB _ _ rfl (by decide) (by decide) (by omega) hBB ?_; intro v1 w1 hown1 hup1; have hc0 := (box_kept hown hup1 0); have hc1 := (box_kept hown hup1 1); have hc2 := (box_kept hown hup1 2); have hc3 := (box_kept hown hup1 3); simp at hc0 hc1 hc2 hc3)
    have hz1 := hup1.1.size
    go_wp2_with fail
    refine (oflag_any y _).mono ?_
    rintro e w2 ⟨rfl, rfl⟩
    have hby : (0 : Int) ≤ (if y = true then 3 else 2) ∧ (if y = true then 3 else 2 : Int) < 256 := by cases y <;> simp
    have hbz : UInt8.ofNat (if y = true then 3 else 2 : Int).toNat = (if y = true then 3 else 2) := by cases y <;> rfl
    generalize (if y = true then 3 else 2 : Int) = b at hby hbz
    go_wp2_with (at_builtin; refine wpList_app1 _ rfl (.tmp 20) (.tmp 24) 58 rfl 5 B Try.underlying58 infoB _ _ rfl hown1 _ _ rfl hby.1 hby.2 (by simp; omega) (by omega) ?_; intro v2 w2 hown2 hup2)
    go_ret
    exact ⟨v2, rfl, by rw [hob.out]; rw [hbz] at hown2; simpa using hown2, (hup1.trans hup2).alloc⟩
  · have hoi := oI_length n
    rw [if_neg (by decide), if_pos rfl] at hl
    rw [List.length_cons] at hl
    go_enter Try.func34, Try.ntmps34
    go_wp2_with (at_builtin; refine wpList_app1H _ (w.heap.size + 1) (by simp) rfl (.tmp 9) (.tmp 14) 58 rfl 5 B Try.underlying58 infoB _ l0 rfl hownB _ _ rfl (by decide) (by decide) (by omega) hBB ?_; intro v1 w1 hown1 hup1; have hc0 := (box_kept hown hup1 0); have hc1 := (box_kept hown hup1 1); have hc2 := (box_kept hown hup1 2); have hc3 := (box_kept hown hup1 3); simp at hc0 hc1 hc2 hc3)
    have hz1 := hup1.1.size
    go_wp2_with fail
    refine (oint_any B v1 _ n HN.out w1 (by simp; omega) (by omega) hown1).mono ?_
    rintro e w2 ⟨v2, rfl, hown2, hup2⟩
    go_wp2
    go_ret
    exact ⟨v2, rfl, by rw [hob.out]; simpa using hown2, (hup1.trans hup2).alloc⟩
  · have hoi := oT_ge t.data.toList
    have hts : t.data.toList.length = t.size := by rw [Array.length_toList]; rfl
    rw [if_neg (by decide), if_neg (by decide), if_pos rfl, List.length_cons] at hl
    go_enter Try.func34, Try.ntmps34
    go_wp2_with (at_builtin; refine wpList_app1H _ (w.heap.size + 1) (by simp) rfl (.tmp 9) (.tmp 14) 58 rfl 5 B Try.underlying58 infoB _ l0 rfl hownB _ _ rfl (by decide) (by decide) (by omega) hBB ?_; intro v1 w1 hown1 hup1; have hc0 := (box_kept hown hup1 0); have hc1 := (box_kept hown hup1 1); have hc2 := (box_kept hown hup1 2); have hc3 := (box_kept hown hup1 3); simp at hc0 hc1 hc2 hc3)
    have hz1 := hup1.1.size
    go_wp2_with fail
    refine (otext_any B v1 _ t w1 (by simp; omega) (by omega) hown1).mono ?_
    rintro e w2 ⟨v2, rfl, hown2, hup2⟩
    go_wp2
    go_ret
    exact ⟨v2, rfl, by rw [hob.out]; simpa using hown2, (hup1.trans hup2).alloc⟩

end Go.Proofs.Ytmodegncifopaaa
end

section
namespace Go.Proofs.Ytmodegncifopaaa
open Go.RowKit

/-- one byte appended: what comes of it -/
theorem app_byte (W : World) (B : Nat) (v : Value) (l : List UInt8) (hown : Bs 5 B W v l) (b : Int) (h0 : 0 ≤ b) (h1 : b < 256) (h63 : l.length < 140737488355328) (hbase : B ≤ W.heap.size) :
    ∃ v' w', (Builtin.append_ #[58, 58] 58 #[v, .slice (some ⟨W.heap.size, 0, none⟩) 1 1]).run Try.prog (W.alloc (.cells #[.int .u8 b] 5)) = .ok v' w' ∧ Bs 5 B w' v' (l ++ [UInt8.ofNat b.toNat]) ∧ Up W v w' v' := by
  obtain ⟨i, hi, hz, hi1, hi2⟩ := info_parts infoB
  have hn : ∀ j u, [Value.int .u8 b][j]? = some u → (W.alloc (.cells #[.int .u8 b] 5)).cell? ((⟨W.heap.size, 0, none⟩ : Addr).add j) = some u := by
    intro j u hj
    match j, hj with
    | 0, hj => simp at hj; subst hj; simp [Addr.add]
  obtain ⟨v', w', hr, ho', hu⟩ := run_app (P := Try.prog) (W.alloc (.cells #[.int .u8 b] 5)) B 58 58 5 i (.int .u8 0) 1 1 Try.underlying58 hi hz hi1 hi2 rfl (by decide) v l.length (Lib.byteCells l) (hown.alloc _)
    ⟨W.heap.size, 0, none⟩ 1 1 [.int .u8 b] rfl hn (by intro u hu; simp at hu; subst hu; rfl) (by unfold maxLen; omega) (by omega) (by simp; omega)
  refine ⟨v', w', hr, ?_, hu.alloc⟩
  have e : Lib.byteCells [UInt8.ofNat b.toNat] = [.int .u8 b] := by
    have : b.toNat % 256 = b.toNat := by omega
    simp [Lib.byteCells, this]; omega
  unfold Bs
  rw [Lib.byteCells_append, List.length_append, e]
  exact ho'

set_option maxHeartbeats 4000000 in
set_option maxRecDepth 100000 in
theorem oval_list (N : Nat) (ih : OVOK N) (y : Bool) (n : Int) (t : ByteArray) (l : List V) (f : List Fd) (hdl : ∀ x ∈ l, x.dep ≤ N) (hok : ∀ x ∈ l, x.okk) (lv fv : Value) (B : Nat) (v0 : Value) (l0 : L8) (w : World)
    (hat : (V.mk 4 y n t l f).At w (fun b => b < B) lv fv) (hB : B ≤ w.heap.size) (hown : Bs 5 B w v0 l0) (hl : l0.length + 2 * (V.mk 4 y n t l f).ob.length ≤ 140737488350000) :
    Calls Try.prog 34 #[v0, .agg #[.int .i64 4, .bool y, .int .i64 n, .string t, lv, fv]] w (LaidPost B v0 (l0 ++ (V.mk 4 y n t l f).ob) w) := by
  obtain ⟨⟨a, c, rfl⟩, ⟨a', c', rfl⟩, hLb, hFb⟩ := hat.is.len
  obtain ⟨a0, c0, rfl⟩ := hown.lenEq
  simp only [V.list, V.fields] at *
  have hownB : Bs 5 B (w.alloc (.cells #[.int .i64 4, .bool y, .int .i64 n, .string t, .slice a l.length c, .slice a' f.length c'] 26)) (.slice a0 l0.length c0) l0 := World.ownsRow.alloc hown _
  have hBB : B ≤ (w.alloc (.cells #[.int .i64 4, .bool y, .int .i64 n, .string t, .slice a l.length c, .slice a' f.length c'] 26)).heap.size := by simp; omega
  have hbw : Below B w (w.alloc (.cells #[.int .i64 4, .bool y, .int .i64 n, .string t, .slice a l.length c, .slice a' f.length c'] 26)) := (Below.refl _ _).alloc hB _
  have hob : Hid ((V.mk 4 y n t l f).ob = 6 :: (obL l ++ [1])) := Lib.hid (by rw [V.ob]; rfl)
  rw [hob.out] at hl
  simp only [List.length_cons, List.length_append, List.length_nil] at hl
  have HDL := Lib.hid hdl
  have HOK := Lib.hid hok
  have HAT := Lib.hid hat
  clear hdl hok hat
  go_enter Try.func34, Try.ntmps34
  go_wp2_with (at_builtin; refine wpList_app1H _ (w.heap.size + 1) (by simp) rfl (.tmp 9) (.tmp 14) 58 rfl 5 B Try.underlying58 infoB _ l0 rfl hownB _ _ rfl (by decide) (by decide) (by omega) hBB ?_; intro v1 w1 hown1 hup1; have hc0 := (box_kept hown hup1 0); have hc4 := (box_kept hown hup1 4); have hc5 := (box_kept hown hup1 5); simp at hc0 hc4 hc5)
  have hz1 := hup1.1.size
  clear hc0 hc5
  go_wp2_with fail
  go_loopw [0, 43] (fun x i wr => ∃ j : Nat, j ≤ l.length ∧ i = .int .i64 j ∧ Bs 5 B wr x (l0 ++ 6 :: obL (l.take j)) ∧ Up (w.alloc (.cells #[.int .i64 4, .bool y, .int .i64 n, .string t, .slice a l.length c, .slice a' f.length c'] 26)) (.slice a0 l0.length c0) wr x) (fun _ i _ => l.length - (intOf i).toNat)
  case atStart => exact ⟨0, Nat.zero_le _, rfl, by simpa [obL] using hown1, hup1⟩
  case round =>
    clear hown1 hup1 hz1 hc4
    obtain ⟨j, hj, rfl, hownj, hupj⟩ := hrel
    have hbj := hbw.trans (hupj.below hownB hBB)
    have hzj := Nat.le_trans hB hbj.size
    have hle := obL_le l j
    by_cases hjl : j < l.length
    · have hatj := HAT.out.low hbj
      obtain ⟨⟨a2, c2, e1, _, _, hcl⟩, _⟩ := V.at_iff.1 hatj
      injection e1 with e1 e3 e2
      clear e3
      subst e1 e2
      obtain ⟨b, off, rfl, hbB, hbl, hLC⟩ : ∃ b off, a = some ⟨b, off, none⟩ ∧ b < B ∧ b < wr.heap.size ∧ LCells wr (fun b => b < B) b off l := by
        rcases hcl with h | h
        · have h : l = [] := h
          rw [h] at hjl; simp at hjl
        · exact h
      obtain ⟨lv', fv', hin, hel⟩ := hLC.get hjl
      have hxf := HOK.out _ (List.getElem_mem hjl)
      have hxd := HDL.out _ (List.getElem_mem hjl)
      obtain ⟨q0, q1, q2, q3, q4, q5⟩ := hin.six
      have htk := obL_take l j hjl
      have hle2 := obL_le l (j + 1)
      generalize l[j] = x at q0 q1 q2 q3 q4 q5 hel hxf hxd htk
      obtain ⟨⟨ax, cx, rfl⟩, ⟨ax', cx', rfl⟩, _, _⟩ := hel.is.len
      have hjl' : (j : Int) < (l.length : Int) := by omega
      have hlen : (l0 ++ 6 :: obL (l.take j)).length + 2 * x.ob.length ≤ 140737488350000 := by
        rw [htk, List.length_append] at hle2
        simp only [List.length_cons, List.length_append]
        omega
      have HT := Lib.hid htk
      have hown5 : Bs 5 B (wr.alloc (.cells #[.int .i64 x.kind, .bool x.yes, .int .i64 x.num, .string x.text, .slice ax x.list.length cx, .slice ax' x.fields.length cx'] 26)) u0 (l0 ++ 6 :: obL (l.take j)) := World.ownsRow.alloc hownj _
      have hcall := ih x _ _ B u0 _ (wr.alloc (.cells #[.int .i64 x.kind, .bool x.yes, .int .i64 x.num, .string x.text, .slice ax x.list.length cx, .slice ax' x.fields.length cx'] 26)) hxd hxf (hel.low ((Below.refl B wr).alloc hzj _)) (by simp; omega) hown5 hlen
      clear htk hin hel hLC hatj hcl hownj hle2 hlen
      go_wp2_with fail
      refine hcall.mono ?_
      rintro e w3 ⟨v3, rfl, hown3, hup3⟩
      clear hcall
      go_wp2
      go_roundw
      case rel =>
        refine ⟨j + 1, by omega, by go_num, ?_, hupj.trans hup3.alloc⟩
        rw [HT.out]
        simpa using hown3
      case measure => simp [intOf]; omega
    · have hge : ¬ (j : Int) < (l.length : Int) := by omega
      have e : l.take j = l := List.take_of_length_le (by omega)
      rw [e] at hownj
      clear hjl e
      go_wp2_with (at_builtin; refine wpList_app1 _ rfl (.tmp 51) (.tmp 52) 58 rfl 5 B Try.underlying58 infoB _ _ rfl hownj _ _ rfl (by decide) (by decide) (by simp; omega) hzj ?_; intro v2 w2 hown2 hup2)
      go_ret
      exact ⟨v2, rfl, by rw [hob.out]; simpa using hown2, (hupj.trans hup2).alloc⟩

section
attribute [-go_sem] Builtin.append_
set_option maxHeartbeats 4000000 in
set_option maxRecDepth 100000 in
theorem oval_map (N : Nat) (ih : OVOK N) (y : Bool) (n : Int) (t : ByteArray) (l : List V) (f : List Fd) (hdf : ∀ p ∈ f, p.2.dep ≤ N) (hok : ∀ p ∈ f, p.2.okk) (lv fv : Value) (B : Nat) (v0 : Value) (l0 : L8) (w : World)
    (hat : (V.mk 5 y n t l f).At w (fun b => b < B) lv fv) (hB : B ≤ w.heap.size) (hown : Bs 5 B w v0 l0) (hl : l0.length + 2 * (V.mk 5 y n t l f).ob.length ≤ 140737488350000) :
    Calls Try.prog 34 #[v0, .agg #[.int .i64 5, .bool y, .int .i64 n, .string t, lv, fv]] w (LaidPost B v0 (l0 ++ (V.mk 5 y n t l f).ob) w) := by
  obtain ⟨⟨a, c, rfl⟩, ⟨a', c', rfl⟩, hLb, hFb⟩ := hat.is.len
  obtain ⟨a0, c0, rfl⟩ := hown.lenEq
  simp only [V.list, V.fields] at *
  have hownB : Bs 5 B (w.alloc (.cells #[.int .i64 5, .bool y, .int .i64 n, .string t, .slice a l.length c, .slice a' f.length c'] 26)) (.slice a0 l0.length c0) l0 := World.ownsRow.alloc hown _
  have hBB : B ≤ (w.alloc (.cells #[.int .i64 5, .bool y, .int .i64 n, .string t, .slice a l.length c, .slice a' f.length c'] 26)).heap.size := by simp; omega
  have hbw : Below B w (w.alloc (.cells #[.int .i64 5, .bool y, .int .i64 n, .string t, .slice a l.length c, .slice a' f.length c'] 26)) := (Below.refl _ _).alloc hB _
  have hob : Hid ((V.mk 5 y n t l f).ob = 7 :: (obF f ++ [1])) := Lib.hid (by rw [V.ob]; rfl)
  rw [hob.out] at hl
  simp only [List.length_cons, List.length_append, List.length_nil] at hl
  have HDF := Lib.hid hdf
  have HOK := Lib.hid hok
  have HAT := Lib.hid hat
  clear hdf hok hat
  go_enter Try.func34, Try.ntmps34
  go_wp2_with (at_builtin; refine wpList_app1H _ (w.heap.size + 1) (by simp) rfl (.tmp 9) (.tmp 14) 58 rfl 5 B Try.underlying58 infoB _ l0 rfl hownB _ _ rfl (by decide) (by decide) (by omega) hBB ?_; intro v1 w1 hown1 hup1; have hc0 := (box_kept hown hup1 0); have hc4 := (box_kept hown hup1 4); have hc5 := (box_kept hown hup1 5); simp at hc0 hc4 hc5)
  have hz1 := hup1.1.size
  clear hc0 hc4
  go_wp2_with fail
  go_loopw [0, 59] (fun x i wr => ∃ j : Nat, j ≤ f.length ∧ i = .int .i64 j ∧ Bs 5 B wr x (l0 ++ 7 :: obF (f.take j)) ∧ Up (w.alloc (.cells #[.int .i64 5, .bool y, .int .i64 n, .string t, .slice a l.length c, .slice a' f.length c'] 26)) (.slice a0 l0.length c0) wr x) (fun _ i _ => f.length - (intOf i).toNat)
  case atStart => exact ⟨0, Nat.zero_le _, rfl, by simpa [obF] using hown1, hup1⟩
  case round =>
    clear hown1 hup1 hz1 hc5
    obtain ⟨j, hj, rfl, hownj, hupj⟩ := hrel
    have hbj := hbw.trans (hupj.below hownB hBB)
    have hzj := Nat.le_trans hB hbj.size
    have hle := obF_le f j
    by_cases hjl : j < f.length
    · have hatj := HAT.out.low hbj
      obtain ⟨_, ⟨a2, c2, e1, _, _, hcl⟩⟩ := V.at_iff.1 hatj
      injection e1 with e1 e3 e2
      clear e3
      subst e1 e2
      obtain ⟨b, off, rfl, hbB, hbl, hFC⟩ : ∃ b off, a' = some ⟨b, off, none⟩ ∧ b < B ∧ b < wr.heap.size ∧ FCells wr (fun b => b < B) b off f := by
        rcases hcl with h | h
        · have h : f = [] := h
          rw [h] at hjl; simp at hjl
        · exact h
      obtain ⟨lv', fv', hin, hel⟩ := hFC.get hjl
      have hxf := HOK.out _ (List.getElem_mem hjl)
      have hxd := HDF.out _ (List.getElem_mem hjl)
      obtain ⟨q0, q1, q2, q3, q4, q5, q6⟩ := hin.seven
      have htk := obF_take f j hjl
      have hle2 := obF_le f (j + 1)
      generalize (f[j]).1 = nm at q0 htk
      generalize (f[j]).2 = x at q1 q2 q3 q4 q5 q6 hel hxf hxd htk
      obtain ⟨⟨ax, cx, rfl⟩, ⟨ax', cx', rfl⟩, _, _⟩ := hel.is.len
      have hjl' : (j : Int) < (f.length : Int) := by omega
      have hnm := oT_ge nm.data.toList
      have hns : nm.data.toList.length = nm.size := by rw [Array.length_toList]; rfl
      have hlen1 : (l0 ++ 7 :: obF (f.take j)).length + 2 + 2 * nm.size + 2 * x.ob.length + 2 < 140737488350000 := by
        rw [htk, List.length_append] at hle2
        simp only [List.length_cons, List.length_append] at hle2 ⊢
        omega
      have hlen2 : ((l0 ++ 7 :: obF (f.take j)) ++ [2] ++ oT nm.data.toList).length + 2 * x.ob.length ≤ 140737488350000 := by
        rw [htk, List.length_append] at hle2
        simp only [List.length_cons, List.length_append, List.length_nil] at hle2 ⊢
        omega
      have HT := Lib.hid htk
      obtain ⟨L1, hL1⟩ : ∃ L1, L1 = l0 ++ 7 :: obF (f.take j) := ⟨_, rfl⟩
      rw [← hL1] at hownj hlen1 hlen2
      have HL1 := Lib.hid hL1
      have HLN := Lib.hid (And.intro hlen1 hlen2)
      have hl1 : L1.length < 140737488355328 := by omega
      clear hL1 hle2 hlen1 hlen2 hnm hns
      have hb5 : Below B wr (wr.alloc (.cells #[.string nm, .int .i64 x.kind, .bool x.yes, .int .i64 x.num, .string x.text, .slice ax x.list.length cx, .slice ax' x.fields.length cx'] 43)).drew := ((Below.refl B wr).alloc hzj _).drew
      have hz5 : B ≤ (wr.alloc (.cells #[.string nm, .int .i64 x.kind, .bool x.yes, .int .i64 x.num, .string x.text, .slice ax x.list.length cx, .slice ax' x.fields.length cx'] 43)).drew.heap.size := Nat.le_trans hzj hb5.size
      have hown5 : Bs 5 B (wr.alloc (.cells #[.string nm, .int .i64 x.kind, .bool x.yes, .int .i64 x.num, .string x.text, .slice ax x.list.length cx, .slice ax' x.fields.length cx'] 43)).drew u0 L1 := World.ownsRow.alloc hownj _
      have hup5 : Up wr u0 (wr.alloc (.cells #[.string nm, .int .i64 x.kind, .bool x.yes, .int .i64 x.num, .string x.text, .slice ax x.list.length cx, .slice ax' x.fields.length cx'] 43)).drew u0 := ⟨⟨rfl, rfl, rfl, by simp, fun k hk _ => Below.heap_alloc wr _ k hk⟩, .inl rfl⟩
      have hel5 := Lib.hid (hel.low hb5)
      have hkeep : Hid (∀ (w' : World) (V' : Value), Up (wr.alloc (.cells #[.string nm, .int .i64 x.kind, .bool x.yes, .int .i64 x.num, .string x.text, .slice ax x.list.length cx, .slice ax' x.fields.length cx'] 43)).drew u0 w' V' → w'.cell? ⟨wr.heap.size, 0, none⟩ = some (.string nm) ∧ w'.cell? ⟨wr.heap.size, 1, none⟩ = some (.int .i64 x.kind) ∧ w'.cell? ⟨wr.heap.size, 2, none⟩ = some (.bool x.yes) ∧ w'.cell? ⟨wr.heap.size, 3, none⟩ = some (.int .i64 x.num) ∧ w'.cell? ⟨wr.heap.size, 4, none⟩ = some (.string x.text) ∧ w'.cell? ⟨wr.heap.size, 5, none⟩ = some (.slice ax x.list.length cx) ∧ w'.cell? ⟨wr.heap.size, 6, none⟩ = some (.slice ax' x.fields.length cx')) := Lib.hid (fun w' V' hup => by
        have hkk := fun i => World.cell?_of_block (a := ⟨wr.heap.size, i, none⟩) (hup.1.block wr.heap.size (by simp) (fun e => by have := (World.ownsRow.lt hownj _ e.symm).2; omega))
        exact ⟨by rw [hkk]; simp, by rw [hkk]; simp, by rw [hkk]; simp, by rw [hkk]; simp, by rw [hkk]; simp, by rw [hkk]; simp, by rw [hkk]; simp⟩)
      have HXD := Lib.hid hxd
      have HXF := Lib.hid hxf
      have HB5 := Lib.hid hb5
      obtain ⟨v2, w2, hrun, hown2, hup2⟩ := app_byte (wr.alloc (.cells #[.string nm, .int .i64 x.kind, .bool x.yes, .int .i64 x.num, .string x.text, .slice ax x.list.length cx, .slice ax' x.fields.length cx'] 43)).drew B u0 L1 hown5 2 (by decide) (by decide) hl1 hz5
      have hS2 := hkeep.out w2 v2 hup2
      have hb2 := hup2.below hown5 hz5
      have hz0 : (wr.alloc (.cells #[.string nm, .int .i64 x.kind, .bool x.yes, .int .i64 x.num, .string x.text, .slice ax x.list.length cx, .slice ax' x.fields.length cx'] 43)).drew.heap.size = wr.heap.size + 1 := by show (wr.alloc (.cells #[.string nm, .int .i64 x.kind, .bool x.yes, .int .i64 x.num, .string x.text, .slice ax x.list.length cx, .slice ax' x.fields.length cx'] 43)).heap.size = _; simp
      rw [hz0] at hrun
      have hrun2 : (Builtin.append_ #[58, 58] 58 #[u0, .slice (some ⟨wr.heap.size + 1, 0, none⟩) 1 1]).run Try.prog ((wr.alloc (.cells #[.string nm, .int .i64 x.kind, .bool x.yes, .int .i64 x.num, .string x.text, .slice ax x.list.length cx, .slice ax' x.fields.length cx'] 43)).alloc (.cells #[.int .u8 2] 5)).drew = .ok v2 w2 := hrun
      clear htk hin hel hFC hatj hcl hxd hxf hb5 hz0
      go_wp2_with fail
      go_region_held3 (fun w' => w'.cell? ⟨wr.heap.size, 0, none⟩ = some (.string nm) ∧ w'.cell? ⟨wr.heap.size, 1, none⟩ = some (.int .i64 x.kind) ∧ w'.cell? ⟨wr.heap.size, 2, none⟩ = some (.bool x.yes) ∧ w'.cell? ⟨wr.heap.size, 3, none⟩ = some (.int .i64 x.num) ∧ w'.cell? ⟨wr.heap.size, 4, none⟩ = some (.string x.text) ∧ w'.cell? ⟨wr.heap.size, 5, none⟩ = some (.slice ax x.list.length cx) ∧ w'.cell? ⟨wr.heap.size, 6, none⟩ = some (.slice ax' x.fields.length cx')) (first | go_keep | exact hS2 | exact hS3 | exact hS4)
        (first
          | (go_at_call 61
             refine (otext_any B v2 _ nm w2 ?_ ?_ hown2).mono ?_
             · have := HLN.out.1; simp; omega
             · exact Nat.le_trans hz5 hb2.size
             rintro e w3 ⟨v3, rfl, hown3, hup3⟩
             have hS3 := hkeep.out w3 v3 (hup2.trans hup3)
             have hb3 := hb2.trans (hup3.below hown2 (Nat.le_trans hz5 hb2.size)))
          | (go_at_call 34
             refine (ih x _ _ B v3 _ w3 HXD.out HXF.out (hel5.out.low hb3) (Nat.le_trans hz5 hb3.size) hown3 ?_).mono ?_
             · exact HLN.out.2
             rintro e w4 ⟨v4, rfl, hown4, hup4⟩
             have hS4 := hkeep.out w4 v4 ((hup2.trans hup3).trans hup4)))
      go_wp2
      go_roundw
      case rel =>
        refine ⟨j + 1, by omega, by go_num, ?_, hupj.trans (hup5.trans ((hup2.trans hup3).trans hup4))⟩
        rw [HT.out]
        rw [HL1.out] at hown4
        simpa using hown4
      case measure => simp [intOf]; omega
    · have hge : ¬ (j : Int) < (f.length : Int) := by omega
      have e : f.take j = f := List.take_of_length_le (by omega)
      rw [e] at hownj
      clear hjl e
      go_wp2_with (at_builtin; refine wpList_app1 _ rfl (.tmp 73) (.tmp 74) 58 rfl 5 B Try.underlying58 infoB _ _ rfl hownj _ _ rfl (by decide) (by decide) (by simp; omega) hzj ?_; intro v2 w2 hown2 hup2)
      go_ret
      exact ⟨v2, rfl, by rw [hob.out]; simpa using hown2, (hupj.trans hup2).alloc⟩

end
theorem oval_all : ∀ N, OVOK N
  | 0 => fun v lv fv B v0 l0 w hd => by
    cases v
    rw [V.dep] at hd
    omega
  | N + 1 => fun v lv fv B v0 l0 w hd hok hat hB hown hl => by
    have hdl : ∀ x ∈ v.list, x.dep ≤ N := fun x hx => by have := dep_list hx; omega
    have hdf : ∀ p ∈ v.fields, p.2.dep ≤ N := fun p hp => by have := dep_fields hp; omega
    obtain ⟨k, y, n, t, l, f, hk, hn, hll, hff⟩ := hok
    by_cases h3 : k ≤ 3
    · exact oval_plain k y n t l f lv fv B v0 l0 w hk.1 h3 hn hat hB hown hl
    · by_cases h4 : k = 4
      · subst h4
        exact oval_list N (oval_all N) y n t l f hdl hll lv fv B v0 l0 w hat hB hown hl
      · obtain rfl : k = 5 := by omega
        exact oval_map N (oval_all N) y n t l f hdf hff lv fv B v0 l0 w hat hB hown hl

end Go.Proofs.Ytmodegncifopaaa
end

section
namespace Go.Proofs.Ytmodegncifopaaa.ordVals
open Go.RowKit Go.Proofs.Ytmodegncifopaaa.rowB Go.Proofs.Ytmodegncifopaaa.valOrders

/-- does a text begin with another one? -/
def begB (x y : L8) : Bool := decide (y <+: x)

theorem extract_pre (s : ByteArray) (n : Nat) : (s.extract 0 n).data.toList = s.data.toList.take n := by
  rw [Lib.extract_data]; simp

theorem begB_take (x y : L8) : begB x y = (x.take y.length == y) := by
  unfold begB
  rw [Bool.eq_iff_iff, decide_eq_true_eq, beq_iff_eq]
  constructor
  · intro k; exact (List.prefix_iff_eq_take.1 k).symm
  · intro k; exact List.prefix_iff_eq_take.2 k.symm

theorem begins_any (s t : ByteArray) (w : World) :
    Calls Try.prog 36 #[.string s, .string t] w fun e w' => e = .returned (.bool (begB s.data.toList t.data.toList)) ∧ w = w' := by
  by_cases h : t.size ≤ s.size
  · have h' : ¬ (s.size : Int) < (t.size : Int) := by omega
    have hb := begB_take s.data.toList t.data.toList
    rw [show t.data.toList.length = t.size by rw [Array.length_toList]; rfl] at hb
    have HB := Lib.hid hb
    clear hb
    go_enter Try.func36, Try.ntmps36
    go_wp2
    go_ret
    refine ⟨?_, rfl⟩
    rw [HB.out]
    congr 2; simp [Lib.toList_data]
  · have h' : (s.size : Int) < (t.size : Int) := by omega
    have hb : begB s.data.toList t.data.toList = false := by
      unfold begB
      rw [decide_eq_false_iff_not]
      intro k
      have := k.length_le
      rw [Array.length_toList, Array.length_toList] at this
      exact h this
    have HB := Lib.hid hb
    clear hb
    go_enter Try.func36, Try.ntmps36
    go_wp2
    go_ret
    exact ⟨by rw [HB.out]; rfl, rfl⟩

/-- the law's order of texts -/
theorem by_any (s t : ByteArray) (w : World) :
    Calls Try.prog 37 #[.string s, .string t] w fun e w' => e = .returned (.int .i64 (cmpL s.data.toList t.data.toList)) ∧ w = w' := by
  rcases lt_tri s.data.toList t.data.toList with h | h | h
  · have e1 : Op.bytesLess s.toList t.toList = true := by rw [Proofs.bytesLess_eq, Lib.toList_data, Lib.toList_data]; exact decide_eq_true h
    have hc := cmpL_lt h
    clear h
    go_enter Try.func37, Try.ntmps37
    go_wp2
    go_ret
    exact ⟨by rw [hc]; rfl, rfl⟩
  · have e1 : Op.bytesLess s.toList t.toList = false := by rw [Proofs.bytesLess_eq, Lib.toList_data, Lib.toList_data, h]; exact decide_eq_false (lt_irr _)
    have e2 : (s.toList == t.toList) = true := by rw [Lib.toList_data, Lib.toList_data, h]; simp
    have hc : cmpL s.data.toList t.data.toList = 0 := cmpL_zero.2 h
    clear h
    go_enter Try.func37, Try.ntmps37
    go_wp2
    go_ret
    exact ⟨by rw [hc]; rfl, rfl⟩
  · have e1 : Op.bytesLess s.toList t.toList = false := by rw [Proofs.bytesLess_eq, Lib.toList_data, Lib.toList_data]; exact decide_eq_false (lt_asym h)
    have e2 : (s.toList == t.toList) = false := by
      rw [Lib.toList_data, Lib.toList_data, beq_eq_false_iff_ne]; intro e; rw [e] at h; exact lt_irr _ h
    have hc := cmpL_gt h
    clear h
    go_enter Try.func37, Try.ntmps37
    go_wp2
    go_ret
    exact ⟨by rw [hc]; rfl, rfl⟩


theorem sign_any (n : Int) (hn : Three n) (w : World) : Calls Try.prog 35 #[.int .i64 n] w fun e w' => e = .returned (.int .i64 n) ∧ w = w' := by
  rcases hn with rfl | rfl | rfl <;>
    (go_enter Try.func35, Try.ntmps35
     go_wp2
     go_ret
     exact ⟨rfl, rfl⟩)

theorem obL_len (K : Nat) : ∀ (l : List V), (∀ x ∈ l, x.ob.length ≤ K) → (obL l).length ≤ l.length * K
  | [], _ => by simp [obL]
  | v :: l, h => by
    rw [obL, List.length_append, List.length_cons, Nat.add_mul, Nat.one_mul]
    have := h v (List.mem_cons_self ..)
    have := obL_len K l fun x hx => h x (List.mem_cons_of_mem _ hx)
    omega
theorem obF_len (K : Nat) : ∀ (l : List Fd), (∀ x ∈ l, x.1.size ≤ 40 ∧ x.2.ob.length ≤ K) → (obF l).length ≤ l.length * (83 + K)
  | [], _ => by simp [obF]
  | v :: l, h => by
    rw [obF, List.length_append, List.length_cons, List.length_append, List.length_cons, Nat.add_mul, Nat.one_mul]
    have h1 := h v (List.mem_cons_self ..)
    have h2 := oT_length v.1.data.toList
    have h3 : v.1.data.toList.length = v.1.size := by rw [Array.length_toList]; rfl
    have := obF_len K l fun x hx => h x (List.mem_cons_of_mem _ hx)
    omega

theorem few_ob : ∀ (N : Nat) (v : V) (d : Int), 7 - d ≤ N → v.few d = true → v.ob.length ≤ 1000 * 9 ^ N
  | 0, v, d, hd, h => by
    obtain ⟨k, y, n, t, l, f⟩ := v
    have := (few_parts h).1
    omega
  | N + 1, v, d, hd, h => by
    obtain ⟨k, y, n, t, l, f⟩ := v
    obtain ⟨h1, h2, h3, h4, h5, h6⟩ := few_parts h
    have hl := obL_len (1000 * 9 ^ N) l fun x hx => few_ob N x (d + 1) (by omega) (fewL_iff.1 h5 x hx)
    have hf := obF_len (1000 * 9 ^ N) f fun p hp => ⟨(fewF_iff.1 h6 p hp).1, few_ob N p.2 (d + 1) (by omega) (fewF_iff.1 h6 p hp).2⟩
    have ht := oT_length t.data.toList
    have hts : t.data.toList.length = t.size := by rw [Array.length_toList]; rfl
    have hi := oI_length n
    have h9 : 1 ≤ 9 ^ N := Nat.one_le_pow _ _ (by omega)
    have hl2 : l.length * (1000 * 9 ^ N) ≤ 8 * (1000 * 9 ^ N) := Nat.mul_le_mul_right _ h2
    have hf2 : f.length * (83 + 1000 * 9 ^ N) ≤ 8 * (83 + 1000 * 9 ^ N) := Nat.mul_le_mul_right _ h3
    have hp : 9 ^ (N + 1) = 9 ^ N * 9 := Nat.pow_succ ..
    rw [V.ob, List.length_cons]
    split
    · simp; omega
    split
    · omega
    split
    · omega
    split
    · rw [List.length_append]; simp only [List.length_cons, List.length_nil]; omega
    split
    · rw [List.length_append]; simp only [List.length_cons, List.length_nil]; omega
    · simp; omega

theorem pl_okk : ∀ (N : Nat) (v : V), v.dep ≤ N → v.pl → v.n64 → v.okk
  | 0, v, hd, _, _ => by cases v; rw [V.dep] at hd; omega
  | N + 1, v, hd, hp, hn => by
    have hk := pl_kind hp
    have hdl : ∀ x ∈ v.list, x.dep ≤ N := fun x hx => by have := dep_list hx; omega
    have hdf : ∀ p ∈ v.fields, p.2.dep ≤ N := fun p hp => by have := dep_fields hp; omega
    cases hp with
    | null => exact .mk _ _ _ _ _ _ hk hn.1 (fun x hx => by cases hx) (fun x hx => by cases hx)
    | bool y => exact .mk _ _ _ _ _ _ hk hn.1 (fun x hx => by cases hx) (fun x hx => by cases hx)
    | int n => exact .mk _ _ _ _ _ _ hk hn.1 (fun x hx => by cases hx) (fun x hx => by cases hx)
    | text t => exact .mk _ _ _ _ _ _ hk hn.1 (fun x hx => by cases hx) (fun x hx => by cases hx)
    | list l h => exact .mk _ _ _ _ _ _ hk hn.1 (fun x hx => pl_okk N x (hdl x hx) (h x hx) (n64L_iff.1 hn.2.1 x hx)) (fun x hx => by cases hx)
    | map f h => exact .mk _ _ _ _ _ _ hk hn.1 (fun x hx => by cases hx) (fun p hp => pl_okk N p.2 (hdf p hp) (h p hp) (n64F_iff.1 hn.2.2 p hp))

/-- an empty row, and what came in behind it -/
theorem app_ahead (W : World) (am : Option Addr) (lm cm : Nat) (zm : List Int) (hrow : IsRow .u8 W am lm cm zm) (hl : lm ≤ 20) :
    ∃ v' w', (Builtin.append_ #[58, 58] 58 #[.slice (some ⟨W.heap.size, 0, none⟩) 0 0, .slice am lm cm]).run Try.prog (W.alloc (.cells #[] 5)) = .ok v' w' ∧ Bs 5 W.heap.size w' v' (bytesOf (zm.take lm)) ∧ Below W.heap.size W w' := by
  obtain ⟨i, hi, hz0, hi1, hi2⟩ := info_parts infoB
  have hown : Bs 5 W.heap.size (W.alloc (.cells #[] 5)) (.slice (some ⟨W.heap.size, 0, none⟩) 0 0) [] := World.ownsRow_made W #[] 0 (Nat.le_refl _) (by decide) rfl
  have hbw : Below W.heap.size W (W.alloc (.cells #[] 5)) := (Below.refl _ _).alloc (Nat.le_refl _) _
  rcases hrow with ⟨rfl, rfl, rfl, rfl⟩ | ⟨ad, rfl, hle, _, hz, hc, hw⟩
  · have h := run_append_owned_none (P := Try.prog) (w := W.alloc (.cells #[] 5)) W.heap.size 58 58 5 i 1 Try.underlying58 hi _ _ _ hown
    exact ⟨_, _, h, by simpa [bytesOf] using hown, hbw⟩
  · have hzb : ∀ z ∈ zm.take lm, 0 ≤ z ∧ z < 256 := fun z hz => u8_wf (hw z (List.mem_of_mem_take hz))
    have hll : (zm.take lm).length = lm := by simp; omega
    have hn : ∀ j u, ((zm.take lm).map (Value.int .u8))[j]? = some u → (W.alloc (.cells #[] 5)).cell? (ad.add j) = some u := by
      intro j u hj
      have hj' : j < (zm.take lm).length := by
        have := (List.getElem?_eq_some_iff.1 hj).1
        simpa using this
      have hj2 : j < lm := by omega
      have hj3 : j < zm.length := by omega
      rw [hbw.cell (World.block_lt_of_cell? W _ (hc j hj3)), hc j hj3]
      simp [hj2, hj3] at hj
      rw [← hj]
      simp [List.getD, hj3]
    obtain ⟨v', w', hr, ho', hu⟩ := run_app (P := Try.prog) (W.alloc (.cells #[] 5)) W.heap.size 58 58 5 i (.int .u8 0) 1 1 Try.underlying58 hi hz0 hi1 hi2 rfl (by decide) _ 0 (Lib.byteCells []) hown
      ad lm cm ((zm.take lm).map (Value.int .u8)) (by simp; omega) hn (by intro u hu; obtain ⟨z, _, rfl⟩ := List.mem_map.1 hu; rfl) (by unfold maxLen; omega) (by omega) (by simp)
    refine ⟨v', w', hr, ?_, hbw.trans (hu.below hown (by simp))⟩
    unfold Bs
    have e : (bytesOf (zm.take lm)).length = 0 + lm := by simp [bytesOf]; omega
    rw [e, byteCells_of _ hzb]
    rw [show Lib.byteCells [] = [] from rfl, List.nil_append] at ho'
    exact ho'

/-- what is laid of a value behind what came in, as a text -/
def ValS (W : World) (s : ByteArray) (e : Ending) (w' : World) : Prop := ∃ v3, e = .returned v3 ∧ (convert 58 9 v3).run Try.prog w' = .ok (.string s) w' ∧ Below W.heap.size W w'

def Six (w : World) (b : Nat) (c0 c1 c2 c3 c4 c5 : Value) : Prop := w.cell? ⟨b, 0, none⟩ = some c0 ∧ w.cell? ⟨b, 1, none⟩ = some c1 ∧ w.cell? ⟨b, 2, none⟩ = some c2 ∧ w.cell? ⟨b, 3, none⟩ = some c3 ∧ w.cell? ⟨b, 4, none⟩ = some c4 ∧ w.cell? ⟨b, 5, none⟩ = some c5

theorem pre7 (W : World) (n b : Nat) (u : V) (h6 : In6 W n b u) (am : Option Addr) (lm cm : Nat) (zm : List Int) (hrow : IsRow .u8 W am lm cm zm) (hl : lm ≤ 20) (hok : u.okk) (hob : u.ob.length ≤ 1000 * 9 ^ 7) :
    ∃ v2 w2 a1 c1 a2 c2, (Builtin.append_ #[58, 58] 58 #[.slice (some ⟨W.heap.size, 0, none⟩) 0 0, .slice am lm cm]).run Try.prog (W.drew.alloc (.cells #[] 5)) = .ok v2 w2 ∧ Below W.heap.size W w2 ∧
      (∀ W', Below W.heap.size W W' → Six W' b (.int .i64 u.kind) (.bool u.yes) (.int .i64 u.num) (.string u.text) (.slice a1 u.list.length c1) (.slice a2 u.fields.length c2)) ∧
      Calls Try.prog 34 #[v2, .agg #[.int .i64 u.kind, .bool u.yes, .int .i64 u.num, .string u.text, .slice a1 u.list.length c1, .slice a2 u.fields.length c2]] w2 (ValS W ⟨(bytesOf (zm.take lm) ++ u.ob).toArray⟩) := by
  obtain ⟨a1, c1, a2, c2, hbox, hat⟩ := h6
  obtain ⟨v2, w2, hr, hown, hb⟩ := app_ahead W.drew am lm cm zm (isRow_below hrow (Below.refl _ _).drew) hl
  have hown : Bs 5 W.heap.size w2 v2 (bytesOf (zm.take lm)) := hown
  have hb2 : Below W.heap.size W w2 := (Below.refl _ _).drew.trans hb
  rw [show (1000 * 9 ^ 7 : Nat) = 4782969000 by decide] at hob
  have hlen : (bytesOf (zm.take lm)).length ≤ 20 := by simp [bytesOf]; omega
  refine ⟨v2, w2, a1, c1, a2, c2, hr, hb2, fun W' hW => (Box.six ((hW.block b hbox.lt).trans hbox)).1, ?_⟩
  refine (oval_all u.dep u _ _ W.heap.size v2 _ w2 (Nat.le_refl _) hok (V.At.move (fun q _ hlt => ⟨hlt, hb2.block q hlt⟩) hb2.size _ (Nat.le_refl _) hat) hb2.size hown (by omega)).mono ?_
  rintro e w3 ⟨v3, rfl, hown3, hup3⟩
  exact ⟨v3, rfl, conv_bs (P := Try.prog) 5 W.heap.size w3 58 9 Try.underlying58 Try.underlying5 Try.underlying9 v3 _ hown3, hb2.trans (hup3.below hown hb2.size)⟩

theorem two_in (w : World) (cs ds : Array Value) (t : TypeId) : ∀ w', Below (w.heap.size + 2) ((w.alloc (.cells cs t)).alloc (.cells ds t)) w' →
    Below w.heap.size w w' ∧ w.heap.size + 1 < w'.heap.size ∧ Box w' w.heap.size t cs ∧ Box w' (w.heap.size + 1) t ds := by
  intro w' hb
  have hz : ((w.alloc (.cells cs t)).alloc (.cells ds t)).heap.size = w.heap.size + 2 := by simp
  have hb0 : Below w.heap.size w ((w.alloc (.cells cs t)).alloc (.cells ds t)) := ((Below.refl _ w).alloc (Nat.le_refl _) _).alloc (by simp) _
  have e1 : (w.alloc (.cells cs t)).heap.size = w.heap.size + 1 := by simp
  refine ⟨hb0.trans (hb.mono (by omega)), by have := hb.size; omega, ?_, ?_⟩
  · exact (hb.block _ (by omega)).trans ((Box.new w t cs).alloc (.cells ds t))
  · have h := Box.new (w.alloc (.cells cs t)) t ds
    rw [e1] at h
    exact (hb.block _ (by omega)).trans h

end Go.Proofs.Ytmodegncifopaaa.ordVals
end

section
namespace Go.Proofs.Ytmodegncifopaaa.ordVals
open Go.RowKit Go.Proofs.Ytmodegncifopaaa.rowB Go.Proofs.Ytmodegncifopaaa.valOrders

set_option maxHeartbeats 4000000 in
set_option maxRecDepth 100000 in
theorem walk_f1 (v o : V) (lv fv lo fo : Value) (am : Option Addr) (lm cm : Nat) (zm : List Int) (w : World) (hv : v.Is w lv fv) (ho : o.Is w lo fo) (wm : IsRow .u8 w am lm cm zm) (hf : Hid (v.few 0 = false)) :
    Calls Try.prog 11 #[.agg #[.int .i64 v.kind, .bool v.yes, .int .i64 v.num, .string v.text, lv, fv], .agg #[.int .i64 o.kind, .bool o.yes, .int .i64 o.num, .string o.text, lo, fo], .slice am lm cm] w fun e w' => e = .returned (.bool true) ∧ Below w.heap.size w w' := by
  obtain ⟨⟨a0, c0, rfl⟩, ⟨a0', c0', rfl⟩, _, _⟩ := hv.len
  obtain ⟨⟨a1, c1, rfl⟩, ⟨a1', c1', rfl⟩, _, _⟩ := ho.len
  have HS : Hid (∀ w', Below w.heap.size w w' → v.Is w' (.slice a0 v.list.length c0) (.slice a0' v.fields.length c0')) := Lib.hid (fun w' hb => hv.below hb)
  have HO : Hid (∀ w', Below w.heap.size w w' → o.Is w' (.slice a1 o.list.length c1) (.slice a1' o.fields.length c1')) := Lib.hid (fun w' hb => ho.below hb)
  have HM : Hid (∀ w', Below w.heap.size w w' → IsRow .u8 w' am lm cm zm) := Lib.hid (fun w' hb => isRow_below wm hb)
  have HX : Hid (∀ w', Below (w.heap.size + 2) ((w.alloc (.cells #[.int .i64 v.kind, .bool v.yes, .int .i64 v.num, .string v.text, .slice a0 v.list.length c0, .slice a0' v.fields.length c0'] 26)).alloc (.cells #[.int .i64 o.kind, .bool o.yes, .int .i64 o.num, .string o.text, .slice a1 o.list.length c1, .slice a1' o.fields.length c1'] 26)) w' → Below w.heap.size w w' ∧ w.heap.size + 1 < w'.heap.size ∧ Box w' w.heap.size 26 #[.int .i64 v.kind, .bool v.yes, .int .i64 v.num, .string v.text, .slice a0 v.list.length c0, .slice a0' v.fields.length c0'] ∧ Box w' (w.heap.size + 1) 26 #[.int .i64 o.kind, .bool o.yes, .int .i64 o.num, .string o.text, .slice a1 o.list.length c1, .slice a1' o.fields.length c1']) := Lib.hid (two_in w _ _ _)
  clear hv ho wm
  go_enter Try.func11, Try.ntmps11
  go_wp2_with fail
  refine (ohead_any _).mono ?_
  rintro e w1 ⟨rfl, hb1⟩
  have HB1 := Lib.hid (hb1.mono (B' := w.heap.size + 2) (by simp))
  clear hb1
  obtain ⟨hbw, _, bx0, bx1⟩ := HX.out _ HB1.out
  obtain ⟨⟨x0, x1, x2, x3, x4, x5⟩, f0, f1, f2, f3, f4, f5⟩ := bx0.six
  obtain ⟨⟨y0, y1, y2, y3, y4, y5⟩, _⟩ := bx1.six
  have hfew := few_any v _ _ w1 (HS.out _ hbw)
  rw [hf.out] at hfew
  have HFW := Lib.hid hfew
  clear hfew
  go_wp2_with fail
  refine HFW.out.mono ?_
  rintro e w2 ⟨rfl, hb⟩
  have HB2 := Lib.hid (HB1.out.trans (hb.mono (by have := (HX.out _ HB1.out).2.1; omega)))
  clear HFW hb x0 x1 x2 x3 x4 x5 y0 y1 y2 y3 y4 y5 f0 f1 f2 f3 f4 f5 bx0 bx1 hbw
  go_wp2
  go_ret
  exact ⟨rfl, (HX.out _ HB2.out).1⟩

set_option maxHeartbeats 4000000 in
set_option maxRecDepth 100000 in
theorem walk_f2 (v o : V) (lv fv lo fo : Value) (am : Option Addr) (lm cm : Nat) (zm : List Int) (w : World) (hv : v.Is w lv fv) (ho : o.Is w lo fo) (wm : IsRow .u8 w am lm cm zm) (hf : Hid (v.few 0 = true)) (hg : Hid (o.few 0 = false)) :
    Calls Try.prog 11 #[.agg #[.int .i64 v.kind, .bool v.yes, .int .i64 v.num, .string v.text, lv, fv], .agg #[.int .i64 o.kind, .bool o.yes, .int .i64 o.num, .string o.text, lo, fo], .slice am lm cm] w fun e w' => e = .returned (.bool true) ∧ Below w.heap.size w w' := by
  obtain ⟨⟨a0, c0, rfl⟩, ⟨a0', c0', rfl⟩, _, _⟩ := hv.len
  obtain ⟨⟨a1, c1, rfl⟩, ⟨a1', c1', rfl⟩, _, _⟩ := ho.len
  have HS : Hid (∀ w', Below w.heap.size w w' → v.Is w' (.slice a0 v.list.length c0) (.slice a0' v.fields.length c0')) := Lib.hid (fun w' hb => hv.below hb)
  have HO : Hid (∀ w', Below w.heap.size w w' → o.Is w' (.slice a1 o.list.length c1) (.slice a1' o.fields.length c1')) := Lib.hid (fun w' hb => ho.below hb)
  have HM : Hid (∀ w', Below w.heap.size w w' → IsRow .u8 w' am lm cm zm) := Lib.hid (fun w' hb => isRow_below wm hb)
  have HX : Hid (∀ w', Below (w.heap.size + 2) ((w.alloc (.cells #[.int .i64 v.kind, .bool v.yes, .int .i64 v.num, .string v.text, .slice a0 v.list.length c0, .slice a0' v.fields.length c0'] 26)).alloc (.cells #[.int .i64 o.kind, .bool o.yes, .int .i64 o.num, .string o.text, .slice a1 o.list.length c1, .slice a1' o.fields.length c1'] 26)) w' → Below w.heap.size w w' ∧ w.heap.size + 1 < w'.heap.size ∧ Box w' w.heap.size 26 #[.int .i64 v.kind, .bool v.yes, .int .i64 v.num, .string v.text, .slice a0 v.list.length c0, .slice a0' v.fields.length c0'] ∧ Box w' (w.heap.size + 1) 26 #[.int .i64 o.kind, .bool o.yes, .int .i64 o.num, .string o.text, .slice a1 o.list.length c1, .slice a1' o.fields.length c1']) := Lib.hid (two_in w _ _ _)
  clear hv ho wm
  go_enter Try.func11, Try.ntmps11
  go_wp2_with fail
  refine (ohead_any _).mono ?_
  rintro e w1 ⟨rfl, hb1⟩
  have HB1 := Lib.hid (hb1.mono (B' := w.heap.size + 2) (by simp))
  clear hb1
  obtain ⟨hbw, _, bx0, bx1⟩ := HX.out _ HB1.out
  obtain ⟨⟨x0, x1, x2, x3, x4, x5⟩, f0, f1, f2, f3, f4, f5⟩ := bx0.six
  obtain ⟨⟨y0, y1, y2, y3, y4, y5⟩, _⟩ := bx1.six
  have hfew := few_any v _ _ w1 (HS.out _ hbw)
  rw [hf.out] at hfew
  have HFW := Lib.hid hfew
  clear hfew
  go_wp2_with fail
  refine HFW.out.mono ?_
  rintro e w2 ⟨rfl, hb⟩
  have HB2 := Lib.hid (HB1.out.trans (hb.mono (by have := (HX.out _ HB1.out).2.1; omega)))
  clear HFW hb x0 x1 x2 x3 x4 x5 y0 y1 y2 y3 y4 y5 f0 f1 f2 f3 f4 f5 bx0 bx1 hbw
  obtain ⟨hbw, _, bx0, bx1⟩ := HX.out _ HB2.out
  obtain ⟨⟨x0, x1, x2, x3, x4, x5⟩, f0, f1, f2, f3, f4, f5⟩ := bx0.six
  obtain ⟨⟨y0, y1, y2, y3, y4, y5⟩, _⟩ := bx1.six
  have hfew := few_any o _ _ w2 (HO.out _ hbw)
  rw [hg.out] at hfew
  have HFW := Lib.hid hfew
  clear hfew
  go_wp2_with fail
  refine HFW.out.mono ?_
  rintro e w3 ⟨rfl, hb⟩
  have HB3 := Lib.hid (HB2.out.trans (hb.mono (by have := (HX.out _ HB2.out).2.1; omega)))
  clear HFW hb x0 x1 x2 x3 x4 x5 y0 y1 y2 y3 y4 y5 f0 f1 f2 f3 f4 f5 bx0 bx1 hbw
  go_wp2
  go_ret
  exact ⟨rfl, (HX.out _ HB3.out).1⟩

set_option maxHeartbeats 4000000 in
set_option maxRecDepth 100000 in
theorem walk_f3 (v o : V) (lv fv lo fo : Value) (am : Option Addr) (lm cm : Nat) (zm : List Int) (w : World) (hv : v.Is w lv fv) (ho : o.Is w lo fo) (wm : IsRow .u8 w am lm cm zm) (hf : Hid (v.few 0 = true)) (hg : Hid (o.few 0 = true)) (h20 : (20 : Int) < (lm : Int)) :
    Calls Try.prog 11 #[.agg #[.int .i64 v.kind, .bool v.yes, .int .i64 v.num, .string v.text, lv, fv], .agg #[.int .i64 o.kind, .bool o.yes, .int .i64 o.num, .string o.text, lo, fo], .slice am lm cm] w fun e w' => e = .returned (.bool true) ∧ Below w.heap.size w w' := by
  obtain ⟨⟨a0, c0, rfl⟩, ⟨a0', c0', rfl⟩, _, _⟩ := hv.len
  obtain ⟨⟨a1, c1, rfl⟩, ⟨a1', c1', rfl⟩, _, _⟩ := ho.len
  have HS : Hid (∀ w', Below w.heap.size w w' → v.Is w' (.slice a0 v.list.length c0) (.slice a0' v.fields.length c0')) := Lib.hid (fun w' hb => hv.below hb)
  have HO : Hid (∀ w', Below w.heap.size w w' → o.Is w' (.slice a1 o.list.length c1) (.slice a1' o.fields.length c1')) := Lib.hid (fun w' hb => ho.below hb)
  have HM : Hid (∀ w', Below w.heap.size w w' → IsRow .u8 w' am lm cm zm) := Lib.hid (fun w' hb => isRow_below wm hb)
  have HX : Hid (∀ w', Below (w.heap.size + 2) ((w.alloc (.cells #[.int .i64 v.kind, .bool v.yes, .int .i64 v.num, .string v.text, .slice a0 v.list.length c0, .slice a0' v.fields.length c0'] 26)).alloc (.cells #[.int .i64 o.kind, .bool o.yes, .int .i64 o.num, .string o.text, .slice a1 o.list.length c1, .slice a1' o.fields.length c1'] 26)) w' → Below w.heap.size w w' ∧ w.heap.size + 1 < w'.heap.size ∧ Box w' w.heap.size 26 #[.int .i64 v.kind, .bool v.yes, .int .i64 v.num, .string v.text, .slice a0 v.list.length c0, .slice a0' v.fields.length c0'] ∧ Box w' (w.heap.size + 1) 26 #[.int .i64 o.kind, .bool o.yes, .int .i64 o.num, .string o.text, .slice a1 o.list.length c1, .slice a1' o.fields.length c1']) := Lib.hid (two_in w _ _ _)
  clear hv ho wm
  go_enter Try.func11, Try.ntmps11
  go_wp2_with fail
  refine (ohead_any _).mono ?_
  rintro e w1 ⟨rfl, hb1⟩
  have HB1 := Lib.hid (hb1.mono (B' := w.heap.size + 2) (by simp))
  clear hb1
  obtain ⟨hbw, _, bx0, bx1⟩ := HX.out _ HB1.out
  obtain ⟨⟨x0, x1, x2, x3, x4, x5⟩, f0, f1, f2, f3, f4, f5⟩ := bx0.six
  obtain ⟨⟨y0, y1, y2, y3, y4, y5⟩, _⟩ := bx1.six
  have hfew := few_any v _ _ w1 (HS.out _ hbw)
  rw [hf.out] at hfew
  have HFW := Lib.hid hfew
  clear hfew
  go_wp2_with fail
  refine HFW.out.mono ?_
  rintro e w2 ⟨rfl, hb⟩
  have HB2 := Lib.hid (HB1.out.trans (hb.mono (by have := (HX.out _ HB1.out).2.1; omega)))
  clear HFW hb x0 x1 x2 x3 x4 x5 y0 y1 y2 y3 y4 y5 f0 f1 f2 f3 f4 f5 bx0 bx1 hbw
  obtain ⟨hbw, _, bx0, bx1⟩ := HX.out _ HB2.out
  obtain ⟨⟨x0, x1, x2, x3, x4, x5⟩, f0, f1, f2, f3, f4, f5⟩ := bx0.six
  obtain ⟨⟨y0, y1, y2, y3, y4, y5⟩, _⟩ := bx1.six
  have hfew := few_any o _ _ w2 (HO.out _ hbw)
  rw [hg.out] at hfew
  have HFW := Lib.hid hfew
  clear hfew
  go_wp2_with fail
  refine HFW.out.mono ?_
  rintro e w3 ⟨rfl, hb⟩
  have HB3 := Lib.hid (HB2.out.trans (hb.mono (by have := (HX.out _ HB2.out).2.1; omega)))
  clear HFW hb x0 x1 x2 x3 x4 x5 y0 y1 y2 y3 y4 y5 f0 f1 f2 f3 f4 f5 bx0 bx1 hbw
  go_wp2
  go_ret
  exact ⟨rfl, (HX.out _ HB3.out).1⟩

section
attribute [-go_sem] Builtin.append_
def St (w W : World) (u z : V) : Prop := Below w.heap.size w W ∧ In6 W (w.heap.size + 2) w.heap.size u ∧ In6 W (w.heap.size + 2) (w.heap.size + 1) z
theorem St.below {w W W' : World} {u z : V} (h : St w W u z) (hb : Below W.heap.size W W') : St w W' u z := ⟨h.1.trans (hb.mono h.1.size), h.2.1.below hb, h.2.2.below hb⟩

theorem texts_ord (A U Z : L8) (X : Int) (h : cmpL U Z = X) (hp : X ≠ 0 → ¬ (A ++ Z) <+: (A ++ U) ∧ ¬ (A ++ U) <+: (A ++ Z)) (w : World) :
    Calls Try.prog 37 #[.string ⟨(A ++ U).toArray⟩, .string ⟨(A ++ Z).toArray⟩] w (fun e w' => e = .returned (.int .i64 X) ∧ w = w') ∧
    Calls Try.prog 36 #[.string ⟨(A ++ U).toArray⟩, .string ⟨A.toArray⟩] w (fun e w' => e = .returned (.bool true) ∧ w = w') ∧
    (X ≠ 0 → Calls Try.prog 36 #[.string ⟨(A ++ U).toArray⟩, .string ⟨(A ++ Z).toArray⟩] w (fun e w' => e = .returned (.bool false) ∧ w = w')) ∧
    (X ≠ 0 → Calls Try.prog 36 #[.string ⟨(A ++ Z).toArray⟩, .string ⟨(A ++ U).toArray⟩] w (fun e w' => e = .returned (.bool false) ∧ w = w')) := by
  have h1 := by_any ⟨(A ++ U).toArray⟩ ⟨(A ++ Z).toArray⟩ w
  have h2 := begins_any ⟨(A ++ U).toArray⟩ ⟨A.toArray⟩ w
  have h3 := begins_any ⟨(A ++ U).toArray⟩ ⟨(A ++ Z).toArray⟩ w
  have h4 := begins_any ⟨(A ++ Z).toArray⟩ ⟨(A ++ U).toArray⟩ w
  simp only at h1 h2 h3 h4
  rw [cmpL_append_left, h] at h1
  rw [show begB (A ++ U) A = true from decide_eq_true (List.prefix_append A U)] at h2
  refine ⟨h1, h2, fun hx => ?_, fun hx => ?_⟩
  · rw [show begB (A ++ U) (A ++ Z) = false from decide_eq_false (hp hx).1] at h3
    exact h3
  · rw [show begB (A ++ Z) (A ++ U) = false from decide_eq_false (hp hx).2] at h4
    exact h4

/-- of unlike values none is the other one's beginning -/
theorem no_pre {u z : V} (pu : u.pl) (pz : z.pl) (nu : u.n64) (nz : z.n64) (A : L8) (h : u.cmp z ≠ 0) : ¬ (A ++ z.ob) <+: (A ++ u.ob) ∧ ¬ (A ++ u.ob) <+: (A ++ z.ob) := by
  constructor
  · rintro ⟨t, ht⟩
    rw [List.append_assoc] at ht
    have e := List.append_cancel_left ht
    have k := ob_cmp u.dep u z [] t (Nat.le_refl _) pu pz nu nz
    rw [List.append_nil, e, cmpL_self] at k
    unfold thn at k
    rw [if_pos h] at k
    exact h k.symm
  · rintro ⟨t, ht⟩
    rw [List.append_assoc] at ht
    have e := List.append_cancel_left ht
    have k := ob_cmp u.dep u z t [] (Nat.le_refl _) pu pz nu nz
    rw [List.append_nil, e, cmpL_self] at k
    unfold thn at k
    rw [if_pos h] at k
    exact h k.symm

set_option maxHeartbeats 4000000 in
set_option maxRecDepth 100000 in
theorem walk_main (v o : V) (lv fv lo fo : Value) (am : Option Addr) (lm cm : Nat) (zm : List Int) (w : World) (hv : v.Is w lv fv) (ho : o.Is w lo fo) (wm : IsRow .u8 w am lm cm zm) (nv : v.n64) (no : o.n64) (hf : Hid (v.few 0 = true)) (hg : Hid (o.few 0 = true)) (hlm : lm ≤ 20) :
    Calls Try.prog 11 #[.agg #[.int .i64 v.kind, .bool v.yes, .int .i64 v.num, .string v.text, lv, fv], .agg #[.int .i64 o.kind, .bool o.yes, .int .i64 o.num, .string o.text, lo, fo], .slice am lm cm] w fun e w' => e = .returned (.bool true) ∧ Below w.heap.size w w' := by
  obtain ⟨⟨a0, c0, rfl⟩, ⟨a0', c0', rfl⟩, _, _⟩ := hv.len
  obtain ⟨⟨a1, c1, rfl⟩, ⟨a1', c1', rfl⟩, _, _⟩ := ho.len
  have HS : Hid (∀ w', Below w.heap.size w w' → v.Is w' (.slice a0 v.list.length c0) (.slice a0' v.fields.length c0')) := Lib.hid (fun w' hb => hv.below hb)
  have HO : Hid (∀ w', Below w.heap.size w w' → o.Is w' (.slice a1 o.list.length c1) (.slice a1' o.fields.length c1')) := Lib.hid (fun w' hb => ho.below hb)
  have HM : Hid (∀ w', Below w.heap.size w w' → IsRow .u8 w' am lm cm zm) := Lib.hid (fun w' hb => isRow_below wm hb)
  have HX : Hid (∀ w', Below (w.heap.size + 2) ((w.alloc (.cells #[.int .i64 v.kind, .bool v.yes, .int .i64 v.num, .string v.text, .slice a0 v.list.length c0, .slice a0' v.fields.length c0'] 26)).alloc (.cells #[.int .i64 o.kind, .bool o.yes, .int .i64 o.num, .string o.text, .slice a1 o.list.length c1, .slice a1' o.fields.length c1'] 26)) w' → Below w.heap.size w w' ∧ w.heap.size + 1 < w'.heap.size ∧ Box w' w.heap.size 26 #[.int .i64 v.kind, .bool v.yes, .int .i64 v.num, .string v.text, .slice a0 v.list.length c0, .slice a0' v.fields.length c0'] ∧ Box w' (w.heap.size + 1) 26 #[.int .i64 o.kind, .bool o.yes, .int .i64 o.num, .string o.text, .slice a1 o.list.length c1, .slice a1' o.fields.length c1']) := Lib.hid (two_in w _ _ _)
  clear hv ho wm
  go_enter Try.func11, Try.ntmps11
  go_wp2_with fail
  refine (ohead_any _).mono ?_
  rintro e w1 ⟨rfl, hb1⟩
  have HB1 := Lib.hid (hb1.mono (B' := w.heap.size + 2) (by simp))
  clear hb1
  have h20 : ¬ (20 : Int) < (lm : Int) := by omega
  obtain ⟨hbw, _, bx0, bx1⟩ := HX.out _ HB1.out
  obtain ⟨⟨x0, x1, x2, x3, x4, x5⟩, f0, f1, f2, f3, f4, f5⟩ := bx0.six
  obtain ⟨⟨y0, y1, y2, y3, y4, y5⟩, _⟩ := bx1.six
  have hfew := few_any v _ _ w1 (HS.out _ hbw)
  rw [hf.out] at hfew
  have HFW := Lib.hid hfew
  clear hfew
  go_wp2_with fail
  refine HFW.out.mono ?_
  rintro e w2 ⟨rfl, hb⟩
  have HB2 := Lib.hid (HB1.out.trans (hb.mono (by have := (HX.out _ HB1.out).2.1; omega)))
  clear HFW hb x0 x1 x2 x3 x4 x5 y0 y1 y2 y3 y4 y5 f0 f1 f2 f3 f4 f5 bx0 bx1 hbw
  obtain ⟨hbw, _, bx0, bx1⟩ := HX.out _ HB2.out
  obtain ⟨⟨x0, x1, x2, x3, x4, x5⟩, f0, f1, f2, f3, f4, f5⟩ := bx0.six
  obtain ⟨⟨y0, y1, y2, y3, y4, y5⟩, _⟩ := bx1.six
  have hfew := few_any o _ _ w2 (HO.out _ hbw)
  rw [hg.out] at hfew
  have HFW := Lib.hid hfew
  clear hfew
  go_wp2_with fail
  refine HFW.out.mono ?_
  rintro e w3 ⟨rfl, hb⟩
  have HB3 := Lib.hid (HB2.out.trans (hb.mono (by have := (HX.out _ HB2.out).2.1; omega)))
  clear HFW hb x0 x1 x2 x3 x4 x5 y0 y1 y2 y3 y4 y5 f0 f1 f2 f3 f4 f5 bx0 bx1 hbw
  have hRU := fun W h => lright_any v 0 hf.out (.slice a0 v.list.length c0) (.slice a0' v.fields.length c0') W h
  have hRZ := fun W h => lright_any o 0 hg.out (.slice a1 o.list.length c1) (.slice a1' o.fields.length c1') W h
  have pu := rv_pl v.dep v (Nat.le_refl _)
  have pz := rv_pl o.dep o (Nat.le_refl _)
  have nu := rv_n64 v.dep v (Nat.le_refl _) nv
  have nz := rv_n64 o.dep o (Nat.le_refl _) no
  have lu := few_ob 7 v.rv 0 (by omega) (rv_few v.dep v 0 (Nat.le_refl _) hf.out)
  have lz := few_ob 7 o.rv 0 (by omega) (rv_few o.dep o 0 (Nat.le_refl _) hg.out)
  generalize v.rv = u at hRU pu nu lu
  generalize o.rv = z at hRZ pz nz lz
  have HRU := Lib.hid hRU
  have HRZ := Lib.hid hRZ
  have HKU := Lib.hid (And.intro (pl_okk u.dep u (Nat.le_refl _) pu nu) lu)
  have HKZ := Lib.hid (And.intro (pl_okk z.dep z (Nat.le_refl _) pz nz) lz)
  obtain ⟨X, HXX⟩ : ∃ X, Hid (u.cmp z = X ∧ Three X) := ⟨_, Lib.hid ⟨rfl, three_all u z⟩⟩
  obtain ⟨A, HA⟩ : ∃ A, Hid (A = bytesOf (zm.take lm)) := ⟨_, Lib.hid rfl⟩
  have HTX := Lib.hid (texts_ord A u.ob z.ob X (by have h := ob_cmp u.dep u z [] [] (Nat.le_refl _) pu pz nu nz; rw [List.append_nil, List.append_nil] at h; rw [h, HXX.out.1]; unfold thn; by_cases hx : X = 0 <;> simp [hx, cmpL_self]) (fun hx => no_pre pu pz nu nz A (by rw [HXX.out.1]; exact hx)))
  clear hRU hRZ hf hg pu pz nu nz lu lz nv no
  have HBW0 := Lib.hid (HX.out _ HB3.out)
  clear HB1 HB2
  go_upto_region 5 with fail
  go_cut [25] (fun _ wx => Hid (Below w.heap.size w wx ∧ w.heap.size + 1 < wx.heap.size ∧ In6 wx (w.heap.size + 2) w.heap.size u ∧ Box wx (w.heap.size + 1) 26 #[.int .i64 o.kind, .bool o.yes, .int .i64 o.num, .string o.text, .slice a1 o.list.length c1, .slice a1' o.fields.length c1']))
  case first =>
    obtain ⟨hbw, hsz, s0, s1⟩ := HBW0.out
    obtain ⟨⟨x0, x1, x2, x3, x4, x5⟩, f0, f1, f2, f3, f4, f5⟩ := s0.six
    have HBOX := Lib.hid s0
    have HS1 := Lib.hid s1
    have HRi := Lib.hid (HRU.out _ (HS.out _ hbw))
    have HBW := Lib.hid hbw
    clear s0 s1 hbw
    go_wp2_with fail
    refine HRi.out.mono ?_
    rintro e w5 ⟨lu, fu, rfl, hat, hb5⟩
    obtain ⟨⟨ax, cx, rfl⟩, ⟨ay, cy, rfl⟩, _, _⟩ := hat.is.len
    have HAT := Lib.hid hat
    have HB5 := Lib.hid hb5
    have hz5 := hb5.size
    clear hat hb5 HRi x0 x1 x2 x3 x4 x5 f0 f1 f2 f3 f4 f5
    have HBX5 := Lib.hid ((HB5.out.block _ HBOX.out.lt).trans HBOX.out)
    obtain ⟨⟨x0, x1, x2, x3, x4, x5⟩, f0, f1, f2, f3, f4, f5⟩ := Box.six HBX5.out
    go_wp2_with fail
    go_meet
    refine Lib.hid ⟨st6_below (HBW.out.trans (HB5.out.mono HBW.out.size)) (by omega) _ _ _ _ _ _, ?_, in6_new rfl HBX5.out (by omega) (by omega) u ax cx ay cy HAT.out, box_keep ((HB5.out.block _ HS1.out.lt).trans HS1.out) (by omega) (st6_far _ _ _ _ _ _)⟩
    rw [show ∀ (W : World) (b : Nat) (c0 c1 c2 c3 c4 c5 : Value), ((((((W.setCell ⟨b, 0, none⟩ c0).setCell ⟨b, 1, none⟩ c1).setCell ⟨b, 2, none⟩ c2).setCell ⟨b, 3, none⟩ c3).setCell ⟨b, 4, none⟩ c4).setCell ⟨b, 5, none⟩ c5).heap.size = W.heap.size from fun W b c0 c1 c2 c3 c4 c5 => st6_size c0 c1 c2 c3 c4 c5]
    omega
  case rest =>
    have HCUT1 := hcut
    clear hcut
    go_upto_region 6 with fail
    go_cut [25] (fun _ wx => Hid (Below w.heap.size w wx ∧ w.heap.size + 1 < wx.heap.size ∧ In6 wx (w.heap.size + 2) w.heap.size u ∧ In6 wx (w.heap.size + 2) (w.heap.size + 1) z))
    case first =>
      obtain ⟨hbw, hsz, s0, s1⟩ := HCUT1.out
      obtain ⟨⟨y0, y1, y2, y3, y4, y5⟩, f0, f1, f2, f3, f4, f5⟩ := s1.six
      have HBOX := Lib.hid s1
      have HS0 := Lib.hid s0
      have HRi := Lib.hid (HRZ.out _ (HO.out _ hbw))
      have HBW := Lib.hid hbw
      clear s0 s1 hbw
      go_wp2_with fail
      refine HRi.out.mono ?_
      rintro e w5 ⟨lu, fu, rfl, hat, hb5⟩
      obtain ⟨⟨ax, cx, rfl⟩, ⟨ay, cy, rfl⟩, _, _⟩ := hat.is.len
      have HAT := Lib.hid hat
      have HB5 := Lib.hid hb5
      have hz5 := hb5.size
      clear hat hb5 HRi y0 y1 y2 y3 y4 y5 f0 f1 f2 f3 f4 f5
      have HBX5 := Lib.hid ((HB5.out.block _ HBOX.out.lt).trans HBOX.out)
      obtain ⟨⟨y0, y1, y2, y3, y4, y5⟩, f0, f1, f2, f3, f4, f5⟩ := Box.six HBX5.out
      go_wp2_with fail
      go_meet
      refine Lib.hid ⟨st6_below (HBW.out.trans (HB5.out.mono HBW.out.size)) (by omega) _ _ _ _ _ _, ?_, In6.keep (HS0.out.below HB5.out) (by omega) (by omega) (st6_far _ _ _ _ _ _) (Nat.le_of_eq (st6_size _ _ _ _ _ _).symm), in6_new rfl HBX5.out (by omega) (by omega) z ax cx ay cy HAT.out⟩
      rw [show ∀ (W : World) (b : Nat) (c0 c1 c2 c3 c4 c5 : Value), ((((((W.setCell ⟨b, 0, none⟩ c0).setCell ⟨b, 1, none⟩ c1).setCell ⟨b, 2, none⟩ c2).setCell ⟨b, 3, none⟩ c3).setCell ⟨b, 4, none⟩ c4).setCell ⟨b, 5, none⟩ c5).heap.size = W.heap.size from fun W b c0 c1 c2 c3 c4 c5 => st6_size c0 c1 c2 c3 c4 c5]
      omega
    case rest =>
      have HCUT2 := hcut
      clear hcut
      clear HBW0 HX HS HO HRU HRZ HCUT1
      have HST : Hid (St w wc u z) := Lib.hid ⟨HCUT2.out.1, HCUT2.out.2.2⟩
      clear HCUT2
      go_upto_region 7 with fail
      go_cut [7] (fun r wx => r = .string ⟨(A ++ u.ob).toArray⟩ ∧ Hid (St w wx u z))
      case first =>
        obtain ⟨v2, w2, p1, q1, p2, q2, hrun, hb2, hS, hV⟩ := pre7 _ (w.heap.size + 2) w.heap.size u HST.out.2.1 am lm cm zm (HM.out _ HST.out.1) hlm HKU.out.1 HKU.out.2
        rw [← HA.out] at hV
        have HV := Lib.hid hV
        have HSS := Lib.hid hS
        obtain ⟨e0, e1, e2, e3, e4, e5⟩ := HSS.out w2 hb2
        obtain ⟨d0, d1, d2, d3, d4, d5⟩ := HSS.out _ (Below.refl _ wc)
        have hltb : w.heap.size < wc.heap.size := World.block_lt_of_cell? _ _ d0
        have hrun2 : (Builtin.append_ #[58, 58] 58 #[.slice (some ⟨wc.heap.size, 0, none⟩) 0 0, .slice am lm cm]).run Try.prog (wc.alloc (.cells #[] 5)).drew = .ok v2 w2 := hrun
        clear hV hS hb2
        go_region_with ((go_at_call 34; refine HV.out.mono ?_; rintro e w7 ⟨v3, rfl, cv3, hb3⟩))
        all_goals
          go_wp2_with fail
          go_meet
          exact ⟨rfl, Lib.hid (HST.out.below hb3)⟩
      case rest =>
        obtain ⟨rfl, HST'⟩ := hcut
        clear HST
        have HST := HST'
        clear HST'
        go_upto_region 8 with fail
        go_cut [8] (fun r wx => r = .string ⟨(A ++ z.ob).toArray⟩ ∧ Hid (St w wx u z))
        case first =>
          obtain ⟨v2, w2, p1, q1, p2, q2, hrun, hb2, hS, hV⟩ := pre7 _ (w.heap.size + 2) (w.heap.size + 1) z HST.out.2.2 am lm cm zm (HM.out _ HST.out.1) hlm HKZ.out.1 HKZ.out.2
          rw [← HA.out] at hV
          have HV := Lib.hid hV
          have HSS := Lib.hid hS
          obtain ⟨e0, e1, e2, e3, e4, e5⟩ := HSS.out w2 hb2
          obtain ⟨d0, d1, d2, d3, d4, d5⟩ := HSS.out _ (Below.refl _ wc)
          have hltb : w.heap.size + 1 < wc.heap.size := World.block_lt_of_cell? _ _ d0
          have hrun2 : (Builtin.append_ #[58, 58] 58 #[.slice (some ⟨wc.heap.size, 0, none⟩) 0 0, .slice am lm cm]).run Try.prog (wc.alloc (.cells #[] 5)).drew = .ok v2 w2 := hrun
          clear hV hS hb2
          go_region_with ((go_at_call 34; refine HV.out.mono ?_; rintro e w7 ⟨v3, rfl, cv3, hb3⟩))
          all_goals
            go_wp2_with fail
            go_meet
            exact ⟨rfl, Lib.hid (HST.out.below hb3)⟩
        case rest =>
          obtain ⟨rfl, HST'⟩ := hcut
          clear HST
          have HST := HST'
          clear HST'
          obtain ⟨ua, uc, ua', uc', ⟨u0, u1, u2, u3, u4, u5⟩, isu⟩ := (HST.out.2.1).six
          obtain ⟨za, zc, za', zc', ⟨z0, z1, z2, z3, z4, z5⟩, isz⟩ := (HST.out.2.2).six
          have hc := cmp_any u z _ _ _ _ _ isu isz
          rw [HXX.out.1] at hc
          have HC := Lib.hid hc
          clear hc
          go_wp2_with fail
          refine HC.out.mono ?_
          rintro e w9 ⟨rfl, hb⟩
          have HST' := Lib.hid (HST.out.below hb)
          clear HC hb HST u0 u1 u2 u3 u4 u5 z0 z1 z2 z3 z4 z5 isu isz
          have HST := HST'
          clear HST'
          have HSG := Lib.hid (sign_any X HXX.out.2 w9)
          go_wp2_with fail
          refine HSG.out.mono ?_
          rintro e wq ⟨rfl, rfl⟩
          clear HSG
          have cva := conv_b (P := Try.prog) w9 58 9 5 Try.underlying58 Try.underlying5 Try.underlying9 am lm cm zm (HM.out _ HST.out.1)
          rw [← HA.out] at cva
          go_wp2_with fail
          refine (HTX.out w9).2.1.mono ?_
          rintro e wq ⟨rfl, rfl⟩
          clear cva
          go_wp2_with fail
          refine (HTX.out w9).1.mono ?_
          rintro e wq ⟨rfl, rfl⟩
          by_cases hx : X = 0
          · subst hx
            go_wp2
            go_ret
            exact ⟨rfl, HST.out.1⟩
          · have g1 : (X == 0) = false := by rw [beq_eq_false_iff_ne]; exact hx
            have HB3' := Lib.hid ((HTX.out w9).2.2.1 hx)
            have HB4' := Lib.hid ((HTX.out w9).2.2.2 hx)
            clear hx
            go_wp2_with fail
            refine HB3'.out.mono ?_
            rintro e wq ⟨rfl, rfl⟩
            go_wp2_with fail
            refine HB4'.out.mono ?_
            rintro e wq ⟨rfl, rfl⟩
            go_wp2
            go_ret
            exact ⟨rfl, HST.out.1⟩
end

theorem walk {w : World} (v : V) (lv fv : Value) (hv : v.Is w lv fv) (nv : v.n64) (o : V) (lo fo : Value) (ho : o.Is w lo fo) (no : o.n64) (am : Option Addr) (lm cm : Nat) (zm : List Int) (wm : IsRow .u8 w am lm cm zm) :
    Calls Try.prog 11 #[.agg #[.int .i64 v.kind, .bool v.yes, .int .i64 v.num, .string v.text, lv, fv], .agg #[.int .i64 o.kind, .bool o.yes, .int .i64 o.num, .string o.text, lo, fo], .slice am lm cm] w fun e w' => e = .returned (.bool true) ∧ Below w.heap.size w w' := by
  cases hf : v.few 0
  · exact walk_f1 v o _ _ _ _ am lm cm zm w hv ho wm (Lib.hid hf)
  · cases hg : o.few 0
    · exact walk_f2 v o _ _ _ _ am lm cm zm w hv ho wm (Lib.hid hf) (Lib.hid hg)
    · by_cases h : lm ≤ 20
      · exact walk_main v o _ _ _ _ am lm cm zm w hv ho wm nv no (Lib.hid hf) (Lib.hid hg) h
      · exact walk_f3 v o _ _ _ _ am lm cm zm w hv ho wm (Lib.hid hf) (Lib.hid hg) (by omega)

end Go.Proofs.Ytmodegncifopaaa.ordVals
end

section
namespace Go.Proofs.Ytmodegncifopaaa
open Go.ChangeShapes Go.WideShapes Go.ChangeAt Go.RowKit Go.Deep Go.Joins

theorem val_arg {H : Type} {enc : TypeId × Value → H} {W : World} {base : Nat} {sp : Nat → Bool} {held : Bool} {v : Value} {d : DataW H} {ps : List MemPlace}
    (h : DataW.Trod enc Try.prog W base sp held 26 v d ps) :
    ∃ (x : V) (lv fv : Value), v = .agg #[.int .i64 x.kind, .bool x.yes, .int .i64 x.num, .string x.text, lv, fv] ∧ x.Is W lv fv ∧ x.n64 := by
  obtain ⟨fuel, hf⟩ := h
  obtain ⟨x, lv, fv, hc, h1, h2, _⟩ := val_came hf
  refine ⟨x, lv, fv, ?_, h1, h2⟩
  cases v with
  | agg cs =>
    have hc : cs.toList = x.cells lv fv := by simpa [Value.cells] using hc
    rw [show cs = (x.cells lv fv).toArray by rw [← hc]]
    rfl
  | _ => simp [Value.cells, V.cells] at hc

end Go.Proofs.Ytmodegncifopaaa
end
