/-
  ValApart: for every two values the law's function returns true, and writes nothing that was there; ahead of it what that rests on, plainly.
-/
import Derived.Test.YtfinhgjmcjkglaaVCmpLaws
import Derived.Test.YtfinhgjmcjkglaaVRights
import Derived.Test.YtfinhgjmcjkglaaValEnc
import Derived.Test.YtfinhgjmcjkglaaValHead
import Derived.Test.YtfinhgjmcjkglaaValCmp2
import Derived.Deep.RegionWith
import Derived.Deep.DeepCutAuto
import Derived.Outline

section
namespace Go.Proofs.Ytfinhgjmcjkglaa

theorem lexL_zero {α : Type} {f : α → α → Int} : ∀ (l m : List α), (∀ x ∈ l, ∀ y ∈ m, f x y = 0 → x = y) → lexL f l m = 0 → l = m
  | [], [], _, _ => rfl
  | [], _ :: _, _, h => by rw [lexL] at h; omega
  | _ :: _, [], _, h => by rw [lexL] at h; omega
  | a :: l, b :: m, hx, h => by
    rw [lexL] at h
    by_cases h0 : f a b = 0
    · rw [if_neg (by simpa using h0)] at h
      have h1 := hx a (by simp) b (by simp) h0
      have h2 := lexL_zero l m (fun x hx1 y hy => hx x (by simp [hx1]) y (by simp [hy])) h
      rw [h1, h2]
    · rw [if_pos h0] at h
      exact absurd h h0

theorem rightF_mem : ∀ {l : List Fd} {m : Option ByteArray} {d : Int}, rightF m l d = true → ∀ p ∈ l, p.2.right d = true
  | [], _, _, _, p, hp => by simp at hp
  | q :: l, m, d, h, p, hp => by
    rw [rightF, Bool.and_eq_true, Bool.and_eq_true] at h
    rcases List.mem_cons.mp hp with rfl | hp
    · exact h.1.2
    · exact rightF_mem h.2 p hp

theorem cmp_right : ∀ (N : Nat) (a b : V) (d e : Int), d ≤ N → a.right d = true → b.right e = true → a.cmp b = 0 → a = b
  | 0, a, b, d, e, hN, ha, _, _ => by
    obtain ⟨h1, _⟩ := right_cases ha
    omega
  | N + 1, a, b, d, e, hN, ha, hb, h => by
    rw [cmp_eq] at h
    have hk : a.kind = b.kind := by
      by_cases h0 : cmpI a.kind b.kind = 0
      · exact cmpI_zero.mp h0
      · rw [if_pos h0] at h
        exact absurd h h0
    rw [if_neg (by rw [hk]; simp [cmpI_zero.mpr])] at h
    obtain ⟨_, ca⟩ := right_cases ha
    obtain ⟨_, cb⟩ := right_cases hb
    obtain rfl | ⟨y, rfl⟩ | ⟨n, rfl⟩ | ⟨t, rfl⟩ | ⟨l, rfl, hl⟩ | ⟨f, rfl, hf⟩ := ca <;> obtain rfl | ⟨y', rfl⟩ | ⟨n', rfl⟩ | ⟨t', rfl⟩ | ⟨l', rfl, hl'⟩ | ⟨f', rfl, hf'⟩ := cb <;> first
      | rfl
      | (exfalso; simp [V.null, V.ofBool, V.ofInt, V.ofText, V.ofList, V.ofMap, V.kind] at hk; done)
      | skip
    · have h' : cmpYes y y' = 0 := by simpa [subC, V.ofBool, V.kind, V.yes] using h
      have : y = y' := by revert h'; cases y <;> cases y' <;> simp [cmpYes]
      rw [this]
    · have h' : cmpI n n' = 0 := by simpa [subC, V.ofInt, V.kind, V.num] using h
      rw [cmpI_zero.mp h']
    · have h' : cmpL t.data.toList t'.data.toList = 0 := by simpa [subC, V.ofText, V.kind, V.text] using h
      rw [cmpB_zero.mp h']
    · have h' : lexL V.cmp l l' = 0 := by simpa [subC, V.ofList, V.kind, V.list] using h
      rw [lexL_zero l l' (fun x hx y hy h0 => cmp_right N x y (d - 1) (e - 1) (by omega) (hl x hx) (hl' y hy) h0) h']
    · have h' : lexL cmpFd f f' = 0 := by simpa [subC, V.ofMap, V.kind, V.fields] using h
      rw [lexL_zero f f' (fun x hx y hy h0 => by
        rw [cmpFd_eq] at h0
        by_cases hc : cmpL x.1.data.toList y.1.data.toList = 0
        · rw [if_neg (by simpa using hc)] at h0
          have h1 := cmp_right N x.2 y.2 (d - 1) (e - 1) (by omega) (rightF_mem hf x hx) (rightF_mem hf' y hy) h0
          have h2 := cmpB_zero.mp hc
          exact Prod.ext h2 h1
        · rw [if_pos hc] at h0
          exact absurd h0 hc) h']

theorem cmp_right0 {a b : V} {d : Nat} (ha : a.right d = true) (hb : b.right d = true) : a.cmp b = 0 ↔ a = b :=
  ⟨cmp_right d a b d d (Int.le_refl _) ha hb, fun h => by rw [h]; exact cmp_self b⟩

theorem lay_begins {a b : V} {d : Nat} (ha : a.right d = true) (hb : b.right d = true) (na : a.n64) (nb : b.n64) (la : a.lay.length ≤ 4096) (lb : b.lay.length ≤ 4096) {r : L8} (h : b.lay = a.lay ++ r) : a = b := by
  have h1 := decV_laid d a r ha na la
  have h2 := decV_laid d b [] hb nb lb
  rw [List.append_nil, h, h1] at h2
  injection h2 with h2
  exact (Prod.mk.inj h2).1

theorem lay_same {a b : V} {d : Nat} (ha : a.right d = true) (hb : b.right d = true) (na : a.n64) (nb : b.n64) (la : a.lay.length ≤ 4096) (lb : b.lay.length ≤ 4096) : a.lay = b.lay ↔ a.cmp b = 0 := by
  rw [cmp_right0 ha hb]
  exact ⟨fun h => lay_begins (r := []) ha hb na nb la lb (by rw [List.append_nil, h]), fun h => by rw [h]⟩

theorem lay_cut {a b : V} {d : Nat} (ha : a.right d = true) (hb : b.right d = true) (na : a.n64) (nb : b.n64) (la : a.lay.length ≤ 4096) (lb : b.lay.length ≤ 4096) : a.lay.take (min a.lay.length b.lay.length) = b.lay.take (min a.lay.length b.lay.length) ↔ a.cmp b = 0 := by
  rw [cmp_right0 ha hb]
  constructor
  · intro h
    rcases Nat.le_total a.lay.length b.lay.length with hl | hl
    · rw [Nat.min_eq_left hl, List.take_length] at h
      exact lay_begins (r := b.lay.drop a.lay.length) ha hb na nb la lb (by conv => { lhs; rw [← List.take_append_drop a.lay.length b.lay, ← h] })
    · rw [Nat.min_eq_right hl, List.take_length] at h
      exact (lay_begins (r := a.lay.drop b.lay.length) hb ha nb na lb la (by conv => { lhs; rw [← List.take_append_drop b.lay.length a.lay, h] })).symm
  · intro h; rw [h]

end Go.Proofs.Ytfinhgjmcjkglaa
end

section
namespace Go.Proofs.Ytfinhgjmcjkglaa.valApart
open Go.RowKit

/-- what Encode gives of the law's Right: bytes and a code; with the code 0 the bytes are those that are laid -/
theorem enc_rv (v : V) (hf : v.few 0 = true) (hn : v.n64) : ∃ s c, encOf v.rv = .tuple #[.string s, .int .i64 c] ∧
    (c ≠ 0 ∨ (c = 0 ∧ v.rv.right 32 = true ∧ v.rv.lay.length ≤ 4096 ∧ s = ⟨v.rv.lay.toArray⟩)) ∧
    (v.rv.right 32 = true → v.rv.fit) := by
  have hfit := fun (h : v.rv.right 32 = true) => fit_of_few v.rv.dep v.rv 0 32 (Nat.le_refl _) (rv_few v.dep v 0 (Nat.le_refl _) hf) h (rv_n64 v.dep v (Nat.le_refl _) hn)
  by_cases hr : v.rv.right 32 = true
  · by_cases hl : v.rv.lay.length ≤ 4096
    · exact ⟨_, 0, by unfold encOf; rw [if_pos hr, if_pos hl], .inr ⟨rfl, hr, hl, rfl⟩, hfit⟩
    · exact ⟨_, 4, by unfold encOf; rw [if_pos hr, if_neg hl], .inl (by decide), hfit⟩
  · exact ⟨_, 1, by unfold encOf; rw [if_neg hr], .inl (by decide), hfit⟩

theorem texts_same {a b : V} (ha : a.right 32 = true) (hb : b.right 32 = true) (na : a.n64) (nb : b.n64) (la : a.lay.length ≤ 4096) (lb : b.lay.length ≤ 4096) :
    ((ByteArray.mk a.lay.toArray).toList == (ByteArray.mk b.lay.toArray).toList) = (a.cmp b == 0) ∧
    (((ByteArray.mk a.lay.toArray).extract 0 (min a.lay.length b.lay.length)).toList == ((ByteArray.mk b.lay.toArray).extract 0 (min a.lay.length b.lay.length)).toList) = (a.cmp b == 0) := by
  have h1 := lay_same (d := 32) ha hb na nb la lb
  have h2 := lay_cut (d := 32) ha hb na nb la lb
  constructor
  · rw [Lib.toList_data, Lib.toList_data, Bool.eq_iff_iff, beq_iff_eq, beq_iff_eq]
    exact h1
  · rw [Lib.toList_data, Lib.toList_data, Lib.extract_data, Lib.extract_data, Bool.eq_iff_iff, beq_iff_eq, beq_iff_eq]
    simpa using h2

set_option maxHeartbeats 4000000 in
set_option maxRecDepth 100000 in
theorem walk (v o : V) (lv fv lo fo : Value) (w : World) (hv : v.Is w lv fv) (ho : o.Is w lo fo) (nv : v.n64) (no : o.n64) :
    Calls Try.prog 8 #[.agg #[.int .i64 v.kind, .bool v.yes, .int .i64 v.num, .string v.text, lv, fv], .agg #[.int .i64 o.kind, .bool o.yes, .int .i64 o.num, .string o.text, lo, fo]] w fun e w' => e = .returned (.bool true) ∧ Below w.heap.size w w' := by
  obtain ⟨⟨a, c, rfl⟩, ⟨a', c', rfl⟩, _, _⟩ := hv.len
  obtain ⟨⟨b, d, rfl⟩, ⟨b', d', rfl⟩, _, _⟩ := ho.len
  have hb0 : Below w.heap.size w ((w.alloc (.cells #[.int .i64 v.kind, .bool v.yes, .int .i64 v.num, .string v.text, .slice a v.list.length c, .slice a' v.fields.length c'] 26)).alloc (.cells #[.int .i64 o.kind, .bool o.yes, .int .i64 o.num, .string o.text, .slice b o.list.length d, .slice b' o.fields.length d'] 26)) := ((Below.refl _ w).alloc (Nat.le_refl _) _).alloc (by simp) _
  have HS : Hid (∀ w', Below w.heap.size w w' → v.Is w' (.slice a v.list.length c) (.slice a' v.fields.length c')) := Lib.hid (fun w' hb => hv.below hb)
  have HO : Hid (∀ w', Below w.heap.size w w' → o.Is w' (.slice b o.list.length d) (.slice b' o.fields.length d')) := Lib.hid (fun w' hb => ho.below hb)
  -- the two boxes, as long as nothing old is written
  have HX : Hid (∀ w', Below (w.heap.size + 2) ((w.alloc (.cells #[.int .i64 v.kind, .bool v.yes, .int .i64 v.num, .string v.text, .slice a v.list.length c, .slice a' v.fields.length c'] 26)).alloc (.cells #[.int .i64 o.kind, .bool o.yes, .int .i64 o.num, .string o.text, .slice b o.list.length d, .slice b' o.fields.length d'] 26)) w' → Below w.heap.size w w' ∧ w.heap.size + 1 < w'.heap.size ∧ w'.cell? ⟨w.heap.size, 0, none⟩ = some (.int .i64 v.kind) ∧ w'.cell? ⟨w.heap.size, 1, none⟩ = some (.bool v.yes) ∧ w'.cell? ⟨w.heap.size, 2, none⟩ = some (.int .i64 v.num) ∧ w'.cell? ⟨w.heap.size, 3, none⟩ = some (.string v.text) ∧ w'.cell? ⟨w.heap.size, 4, none⟩ = some (.slice a v.list.length c) ∧ w'.cell? ⟨w.heap.size, 5, none⟩ = some (.slice a' v.fields.length c') ∧ w'.cell? ⟨w.heap.size + 1, 0, none⟩ = some (.int .i64 o.kind) ∧ w'.cell? ⟨w.heap.size + 1, 1, none⟩ = some (.bool o.yes) ∧ w'.cell? ⟨w.heap.size + 1, 2, none⟩ = some (.int .i64 o.num) ∧ w'.cell? ⟨w.heap.size + 1, 3, none⟩ = some (.string o.text) ∧ w'.cell? ⟨w.heap.size + 1, 4, none⟩ = some (.slice b o.list.length d) ∧ w'.cell? ⟨w.heap.size + 1, 5, none⟩ = some (.slice b' o.fields.length d')) := Lib.hid (fun w' hb => by
    have h : ∀ i : Nat, w'.cell? ⟨w.heap.size, i, none⟩ = ((w.alloc (.cells #[.int .i64 v.kind, .bool v.yes, .int .i64 v.num, .string v.text, .slice a v.list.length c, .slice a' v.fields.length c'] 26)).alloc (.cells #[.int .i64 o.kind, .bool o.yes, .int .i64 o.num, .string o.text, .slice b o.list.length d, .slice b' o.fields.length d'] 26)).cell? ⟨w.heap.size, i, none⟩ := fun i => hb.cell (by show w.heap.size < _; omega)
    have h' : ∀ i : Nat, w'.cell? ⟨w.heap.size + 1, i, none⟩ = ((w.alloc (.cells #[.int .i64 v.kind, .bool v.yes, .int .i64 v.num, .string v.text, .slice a v.list.length c, .slice a' v.fields.length c'] 26)).alloc (.cells #[.int .i64 o.kind, .bool o.yes, .int .i64 o.num, .string o.text, .slice b o.list.length d, .slice b' o.fields.length d'] 26)).cell? ⟨w.heap.size + 1, i, none⟩ := fun i => hb.cell (by show w.heap.size + 1 < _; omega)
    refine ⟨hb0.trans (hb.mono (by omega)), by have := hb.size; simp at this; omega, ?_, ?_, ?_, ?_, ?_, ?_, ?_, ?_, ?_, ?_, ?_, ?_⟩ <;> first
      | (rw [h]; simp; done)
      | (rw [h']; simp; done))
  clear hv ho hb0
  cases hf : v.few 0
  · go_enter Try.func8, Try.ntmps8
    go_wp2_with fail
    refine (head_any _).mono ?_
    rintro e w1 ⟨rfl, hb1⟩
    obtain ⟨hb1w, hz1, x0, x1, x2, x3, x4, x5, y0, y1, y2, y3, y4, y5⟩ := HX.out w1 (hb1.mono (by simp))
    have hfew := few_any v _ _ w1 (HS.out _ hb1w)
    rw [hf] at hfew
    clear hb1 hf
    go_wp2_with fail
    refine hfew.mono ?_
    rintro e w2 ⟨rfl, hb2⟩
    have hb2w := hb1w.trans (hb2.mono hb1w.size)
    clear hfew hb2 hb1w
    go_wp2
    go_ret
    exact ⟨rfl, hb2w⟩
  have HF := Lib.hid hf
  clear hf
  cases hg : o.few 0
  · go_enter Try.func8, Try.ntmps8
    go_wp2_with fail
    refine (head_any _).mono ?_
    rintro e w1 ⟨rfl, hb1⟩
    have hB1 := hb1.mono (B' := w.heap.size + 2) (by simp)
    obtain ⟨hb1w, hz1, x0, x1, x2, x3, x4, x5, y0, y1, y2, y3, y4, y5⟩ := HX.out w1 hB1
    have hfew := few_any v _ _ w1 (HS.out _ hb1w)
    rw [HF.out] at hfew
    clear hb1
    go_wp2_with fail
    refine hfew.mono ?_
    rintro e w2 ⟨rfl, hb2⟩
    have hB2 := hB1.trans (hb2.mono (by omega))
    clear hfew hb2 hB1 hb1w hz1 x0 x1 x2 x3 x4 x5 y0 y1 y2 y3 y4 y5
    obtain ⟨hb2w, hz2, x0, x1, x2, x3, x4, x5, y0, y1, y2, y3, y4, y5⟩ := HX.out w2 hB2
    have hfew := few_any o _ _ w2 (HO.out _ hb2w)
    rw [hg] at hfew
    clear hg hB2
    go_wp2_with fail
    refine hfew.mono ?_
    rintro e w3 ⟨rfl, hb3⟩
    have hb3w := hb2w.trans (hb3.mono hb2w.size)
    clear hfew hb3 hb2w
    go_wp2
    go_ret
    exact ⟨rfl, hb3w⟩
  have HG := Lib.hid hg
  clear hg
  obtain ⟨s, cs, e1, hs, hfu⟩ := enc_rv v HF.out nv
  obtain ⟨t, ct, e2, ht, hfz⟩ := enc_rv o HG.out no
  have HFU := Lib.hid hfu
  have HFZ := Lib.hid hfz
  have HE1 := Lib.hid e1
  have HE2 := Lib.hid e2
  have HS1 := Lib.hid hs
  have HT1 := Lib.hid ht
  have HNU := Lib.hid (rv_n64 v.dep v (Nat.le_refl _) nv)
  have HNZ := Lib.hid (rv_n64 o.dep o (Nat.le_refl _) no)
  obtain ⟨u, hu⟩ : ∃ u, v.rv = u := ⟨_, rfl⟩
  obtain ⟨z, hz⟩ : ∃ z, o.rv = z := ⟨_, rfl⟩
  have hRU := fun W h => lright_any v 0 HF.out (.slice a v.list.length c) (.slice a' v.fields.length c') W h
  have hRZ := fun W h => lright_any o 0 HG.out (.slice b o.list.length d) (.slice b' o.fields.length d') W h
  rw [hu] at hRU HE1 HFU HS1 HNU
  rw [hz] at hRZ HE2 HFZ HT1 HNZ
  have HRU := Lib.hid hRU
  have HRZ := Lib.hid hRZ
  clear hfu hfz e1 e2 hs ht hu hz hRU hRZ nv no
  go_enter Try.func8, Try.ntmps8
  go_wp2_with fail
  refine (head_any _).mono ?_
  rintro e w1 ⟨rfl, hb1⟩
  have hB1 := hb1.mono (B' := w.heap.size + 2) (by simp)
  obtain ⟨hb1w, hz1, x0, x1, x2, x3, x4, x5, y0, y1, y2, y3, y4, y5⟩ := HX.out w1 hB1
  have hfew := few_any v _ _ w1 (HS.out _ hb1w)
  rw [HF.out] at hfew
  clear hb1
  go_wp2_with fail
  refine hfew.mono ?_
  rintro e w2 ⟨rfl, hb2⟩
  have hB2 := hB1.trans (hb2.mono (by omega))
  clear hfew hb2 hB1 hb1w hz1 x0 x1 x2 x3 x4 x5 y0 y1 y2 y3 y4 y5
  obtain ⟨hb2w, hz2, x0, x1, x2, x3, x4, x5, y0, y1, y2, y3, y4, y5⟩ := HX.out w2 hB2
  have hfew := few_any o _ _ w2 (HO.out _ hb2w)
  rw [HG.out] at hfew
  go_wp2_with fail
  refine hfew.mono ?_
  rintro e w3 ⟨rfl, hb3⟩
  have hB3 := hB2.trans (hb3.mono (by omega))
  clear hfew hb3 hB2 hb2w hz2 x0 x1 x2 x3 x4 x5 y0 y1 y2 y3 y4 y5
  obtain ⟨hb3w, hz3, x0, x1, x2, x3, x4, x5, y0, y1, y2, y3, y4, y5⟩ := HX.out w3 hB3
  have hri := HRU.out _ (HS.out _ hb3w)
  go_wp2_with fail
  refine hri.mono ?_
  rintro e w4 ⟨lu, fu, rfl, hat, hb4⟩
  obtain ⟨⟨ax, cx, rfl⟩, ⟨ay, cy, rfl⟩, _, _⟩ := hat.is.len
  have hB4 := hB3.trans (hb4.mono (by omega))
  have henc := enc_any u _ _ w4 hat.is HFU.out
  rw [HE1.out] at henc
  clear hri hb4 hat hB3 hb3w hz3 x0 x1 x2 x3 x4 x5 y0 y1 y2 y3 y4 y5
  obtain ⟨hb4w, hz4, x0, x1, x2, x3, x4, x5, y0, y1, y2, y3, y4, y5⟩ := HX.out w4 hB4
  go_wp2_with fail
  refine henc.mono ?_
  rintro e w5 ⟨rfl, hb5⟩
  have hB5 := hB4.trans (hb5.mono (by omega))
  clear henc hb5 hB4 hb4w hz4 x0 x1 x2 x3 x4 x5 y0 y1 y2 y3 y4 y5
  obtain ⟨hb5w, hz5, x0, x1, x2, x3, x4, x5, y0, y1, y2, y3, y4, y5⟩ := HX.out w5 hB5
  have hri := HRZ.out _ (HO.out _ hb5w)
  go_wp2_with fail
  refine hri.mono ?_
  rintro e w6 ⟨lz, fz, rfl, hat, hb6⟩
  obtain ⟨⟨bx, dx, rfl⟩, ⟨by', dy, rfl⟩, _, _⟩ := hat.is.len
  have hB6 := hB5.trans (hb6.mono (by omega))
  have henc := enc_any z _ _ w6 hat.is HFZ.out
  rw [HE2.out] at henc
  clear hri hb6 hat hB5 hb5w hz5 x0 x1 x2 x3 x4 x5 y0 y1 y2 y3 y4 y5
  obtain ⟨hb6w, hz6, x0, x1, x2, x3, x4, x5, y0, y1, y2, y3, y4, y5⟩ := HX.out w6 hB6
  have hcs := HS1.out
  have hct := HT1.out
  go_wp2_with fail
  refine henc.mono ?_
  rintro e w7 ⟨rfl, hb7⟩
  have hB7 := hB6.trans (hb7.mono (by omega))
  clear henc hb7 hB6 hb6w hz6 x0 x1 x2 x3 x4 x5 y0 y1 y2 y3 y4 y5
  obtain ⟨hb7w, hz7, x0, x1, x2, x3, x4, x5, y0, y1, y2, y3, y4, y5⟩ := HX.out w7 hB7
  rcases hcs with hcs | ⟨rfl, ru, leu, hsu⟩
  · clear hct
    have hne : (cs != 0) = true := by simpa using hcs
    go_wp2
    go_ret
    exact ⟨rfl, hb7w⟩
  rcases hct with hct | ⟨rfl, rz, lez, hsz⟩
  · have hne : (ct != 0) = true := by simpa using hct
    clear ru leu hsu
    go_wp2
    go_ret
    exact ⟨rfl, hb7w⟩
  have hsz1 : s.size = u.lay.length := by rw [hsu]; rfl
  have hsz2 : t.size = z.lay.length := by rw [hsz]; rfl
  have hts := texts_same ru rz HNU.out HNZ.out leu lez
  rw [← hsz1, ← hsz2, ← hsu, ← hsz] at hts
  have hsame := fun W lx fx ly fy (h1 : u.Is W lx fx) (h2 : z.Is W ly fy) => same_any u z lx fx ly fy W h1 h2
  obtain ⟨g, hgg⟩ : ∃ g, (u.cmp z == 0) = g := ⟨_, rfl⟩
  rw [hgg] at hts hsame
  obtain ⟨q1, q2⟩ := hts
  have hs4 : (s.size : Int) ≤ 4096 := by omega
  have ht4 : (t.size : Int) ≤ 4096 := by omega
  have HSAME := Lib.hid hsame
  have HQ1 := Lib.hid q1
  obtain ⟨n, hn1, hn2, hn⟩ : ∃ n : Nat, n ≤ s.size ∧ n ≤ t.size ∧ n = min s.size t.size := ⟨min s.size t.size, Nat.min_le_left _ _, Nat.min_le_right _ _, rfl⟩
  rw [← hn] at q2
  have HQ2 := Lib.hid q2
  have HN := Lib.hid (show min (s.size : Int) (t.size : Int) = (n : Int) by omega)
  have HN12 := Lib.hid (And.intro hn1 hn2)
  clear hsame q1 q2 hsu hsz hsz1 hsz2 ru rz leu lez hgg hn hn1 hn2
  have HB7 := Lib.hid hB7
  clear hB7 hb7w hz7
  go_upto_region 10 with fail
  rw [HN.out]
  go_cut [10] (fun r wx => r = .bool g ∧ Below (w.heap.size + 2) ((w.alloc (.cells #[.int .i64 v.kind, .bool v.yes, .int .i64 v.num, .string v.text, .slice a v.list.length c, .slice a' v.fields.length c'] 26)).alloc (.cells #[.int .i64 o.kind, .bool o.yes, .int .i64 o.num, .string o.text, .slice b o.list.length d, .slice b' o.fields.length d'] 26)) wx)
  case first =>
    have hB7 := HB7.out
    have hBl := hB7.drew
    go_region_with (first
      | (go_at_call 19; (first | (refine (HRZ.out _ (HO.out _ (HX.out _ hB8).1)).mono ?_; rintro e w9 ⟨la, fa, rfl, hatB, hb9⟩; obtain ⟨⟨ba, da, rfl⟩, ⟨bb, db, rfl⟩, _, _⟩ := hatB.is.len; have hisB := hatB.is; have hisA9 := V.Is.below hisA hb9; have hB9 := hB8.trans (hb9.mono (HX.out _ hB8).2.1); clear hatB hb9; obtain ⟨_, _, x0, x1, x2, x3, x4, x5, y0, y1, y2, y3, y4, y5⟩ := HX.out w9 hB9) | (refine (HRU.out _ (HS.out _ (HX.out _ hBl).1)).mono ?_; rintro e w8 ⟨la, fa, rfl, hatA, hb8⟩; obtain ⟨⟨aa, ca, rfl⟩, ⟨ab, cb, rfl⟩, _, _⟩ := hatA.is.len; have hisA := hatA.is; have hB8 := hBl.trans (hb8.mono (HX.out _ hBl).2.1); clear hatA hb8; obtain ⟨_, _, x0, x1, x2, x3, x4, x5, y0, y1, y2, y3, y4, y5⟩ := HX.out w8 hB8)))
      | (go_at_call 23; (refine (HSAME.out _ _ _ _ _ hisA9 hisB).mono ?_; rintro e w10 ⟨rfl, hb10⟩; have hB10 := hB9.trans (hb10.mono (HX.out _ hB9).2.1))))
    all_goals
      go_wp2_with fail
      go_meet
      exact ⟨rfl, hB10⟩
  case rest =>
    obtain ⟨rfl, hB11⟩ := hcut
    have hbw := (HX.out _ hB11).1
    have hn1 := HN12.out.1
    have hn2 := HN12.out.2
    have hn1' : (n : Int) ≤ (s.size : Int) := by omega
    have hn2' : (n : Int) ≤ (t.size : Int) := by omega
    have q1 := HQ1.out
    have q2 := HQ2.out
    clear hB11 x0 x1 x2 x3 x4 x5 y0 y1 y2 y3 y4 y5
    cases g
    · go_wp2_with fail
      go_region
      go_wp2
      go_ret
      exact ⟨rfl, hbw.drew⟩
    · go_wp2_with fail
      go_region
      go_wp2
      go_ret
      exact ⟨rfl, hbw.drew⟩

end Go.Proofs.Ytfinhgjmcjkglaa.valApart
end
