/-
  ClaimActs, plainly; its world between two rounds.
-/
import Derived.Test.YtciknhilbemgdaaClArg
namespace Go.Proofs.Ytciknhilbemgdaa.claimActs
open Go.Proofs.Ytciknhilbemgdaa.tRow Go.RowKit Go.Proofs.Ytciknhilbemgdaa.cl

theorem put_same : ∀ {gs : G}, RiseG gs → ∀ {k : L8} {z : Int}, (k, z) ∈ gs → putG k z gs = gs
  | [], _, _, _, h => by cases h
  | y :: r, hr, k, z, h => by
    have h1 := List.pairwise_cons.1 hr
    by_cases e : y.1 = k
    · have hy : y = (k, z) := by
        rcases List.mem_cons.1 h with h2 | h2
        · exact h2.symm
        · have := h1.1 _ h2
          rw [e, b_irr] at this
          cases this
      subst hy
      have hd : delG k ((k, z) :: r) = r := by
        unfold delG
        rw [List.filter_cons, if_neg (by simp)]
        refine List.filter_eq_self.2 fun p hp => ?_
        have : p.1 ≠ k := fun e => by
          have := h1.1 p hp
          rw [e, b_irr] at this
          cases this
        simp [this]
      unfold putG
      rw [hd]
      cases r with
      | nil => rfl
      | cons q r =>
        rw [insG, if_pos (h1.1 q List.mem_cons_self)]
    · have hm : (k, z) ∈ r := by
        rcases List.mem_cons.1 h with h2 | h2
        · exact absurd (by rw [← h2]) e
        · exact h2
      have ih := put_same h1.2 hm
      have hlt := h1.1 _ hm
      unfold putG at ih ⊢
      have hd : delG k (y :: r) = y :: delG k r := by
        unfold delG
        rw [List.filter_cons, if_pos (by simp [e])]
      rw [hd, insG, if_neg, ih]
      intro hb
      have := b_trans hb hlt
      rw [b_irr] at this
      cases this

/-- Take, plainly: its answer, and that claims stand where who is at the key already is there -/
theorem take_there {gs : G} (hr : RiseG gs) {k : L8} {z : Int} (h : getG k gs = some z) (who : Int) : takeG gs who k = gs ∧ otherG gs who k = (z != who) := by
  have ho : otherG gs who k = (z != who) := by unfold otherG; rw [h]
  refine ⟨?_, ho⟩
  unfold takeG
  rw [ho]
  by_cases e : z = who
  · subst e
    rw [if_neg (by simp), put_same hr ((mem_get hr).2 h)]
  · rw [if_pos (by simp [e])]
theorem take_new {gs : G} {k : L8} (h : getG k gs = none) (who : Int) : takeG gs who k = putG k who gs ∧ otherG gs who k = false := by
  have ho : otherG gs who k = false := by unfold otherG; rw [h]
  exact ⟨by unfold takeG; rw [ho, if_neg (by simp)], ho⟩
theorem take_len (gs : G) (who : Int) (k : L8) : (takeG gs who k).length ≤ gs.length + 1 := by
  unfold takeG
  split
  · omega
  · exact len_put _ _ _
theorem take_keys {gs : G} {k : L8} {n : Nat} (h : ∀ p ∈ gs, p.1.length ≤ n) (hk : k.length ≤ n) (who : Int) : ∀ p ∈ takeG gs who k, p.1.length ≤ n := by
  unfold takeG
  split
  · exact h
  · intro p hp
    unfold putG at hp
    rcases mem_ins.1 hp with rfl | hp
    · exact hk
    · exact h p (List.mem_filter.1 hp).1

/-- what the law's map holds while it is gone through -/
def cur (left : Lit → Bool) (gs : G) (who : Int) : G := gs.filter fun p => left (.string p.1) || p.2 != who
theorem has_g {gs : G} {p : L8 × Int} (hp : p ∈ gs) : Maps.has (dm (toV gs)) (.string p.1) = true := by
  unfold dm Maps.has
  simp only [List.any_map, List.any_eq_true]
  exact ⟨(p.1, .int .i64 p.2), List.mem_map_of_mem hp, by simp [Lit.sameKey]⟩
theorem cur_start (gs : G) (who : Int) : cur (Maps.has (dm (toV gs))) gs who = gs := by
  unfold cur
  exact List.filter_eq_self.2 fun p hp => by rw [has_g hp]; rfl
theorem cur_end {left : Lit → Bool} (h : ∀ kl, left kl = false) (gs : G) (who : Int) : cur left gs who = freeG gs who := by
  unfold cur freeG
  refine List.filter_congr fun p _ => ?_
  rw [h]; rfl
theorem cur_mem {left : Lit → Bool} {gs : G} {who : Int} {p : L8 × Int} (h : p ∈ cur left gs who) : p ∈ gs := (List.mem_filter.1 h).1
theorem same_of {gs : G} (hr : RiseG gs) {k : L8} {z : Int} (h : (k, z) ∈ gs) {p : L8 × Int} (hp : p ∈ gs) (e : p.1 = k) : p.2 = z := by
  have h1 := (mem_get hr).1 h
  have h2 := (mem_get hr).1 (show (p.1, p.2) ∈ gs from hp)
  rw [e, h1] at h2
  injection h2 with h2
  exact h2.symm
theorem cur_other {left : Lit → Bool} {gs : G} (hr : RiseG gs) {who : Int} {k : L8} {z : Int} (h : (k, z) ∈ gs) (hz : z ≠ who) : cur (fun y => left y && !y.sameKey (.string k)) gs who = cur left gs who := by
  unfold cur
  refine List.filter_congr fun p hp => ?_
  dsimp only
  by_cases e : p.1 = k
  · have : (p.2 != who) = true := by rw [same_of hr h hp e]; simpa using hz
    rw [this, Bool.or_true, Bool.or_true]
  · rw [show (Lit.string p.1).sameKey (.string k) = false by simp [Lit.sameKey, e]]
    simp
theorem cur_del {left : Lit → Bool} {gs : G} (hr : RiseG gs) {who : Int} {k : L8} {z : Int} (h : (k, z) ∈ gs) (hz : z = who) : delG k (cur left gs who) = cur (fun y => left y && !y.sameKey (.string k)) gs who := by
  unfold cur delG
  rw [List.filter_filter]
  refine List.filter_congr fun p hp => ?_
  dsimp only
  by_cases e : p.1 = k
  · have h2 : (p.2 != who) = false := by rw [same_of hr h hp e]; simpa using hz
    rw [h2, show (Lit.string p.1).sameKey (.string k) = true by simp [Lit.sameKey, e], show (p.1 == k) = true by simp [e]]
    simp
  · rw [show (Lit.string p.1).sameKey (.string k) = false by simp [Lit.sameKey, e], show (p.1 == k) = false by simp [e]]
    simp

def nOf (left : Lit → Bool) (gs : G) (who : Int) : Nat := (ofG (seenG left gs) who).length
theorem n_step {left : Lit → Bool} {gs : G} (hr : RiseG gs) {who : Int} {k : L8} {z : Int} (h : (k, z) ∈ gs) (hl : left (.string k) = true) : nOf (fun y => left y && !y.sameKey (.string k)) gs who = nOf left gs who + if z = who then 1 else 0 := by
  unfold nOf ofG
  have hp := ((seen_step hr h hl).filter fun p => p.2 == who).length_eq
  rw [List.length_map, List.length_map, hp, List.filter_cons]
  by_cases e : z = who <;> simp [e]
theorem n_le (left : Lit → Bool) (gs : G) (who : Int) : nOf left gs who ≤ gs.length := by
  unfold nOf ofG seenG
  rw [List.length_map]
  exact Nat.le_trans (List.length_filter_le _ _) (List.length_filter_le _ _)
theorem n_end {left : Lit → Bool} (h : ∀ kl, left kl = false) (gs : G) (who : Int) : nOf left gs who = (ofG gs who).length := by
  unfold nOf
  rw [seen_all h]
theorem n_start (gs : G) (who : Int) : nOf (Maps.has (dm (toV gs))) gs who = 0 := by
  unfold nOf
  rw [seen_none]
  rfl

/-- the law's world: claims gs, its own map hs, the function that Busy made -/
def SB (Bx : Nat → Prop) (w W : World) (c : Nat) (who : Int) (m : Nat) (gs hs : G) : Prop :=
  CAt Bx W c m gs ∧ MapAt 9 W (c + 3) m (toV hs) ∧ W.heap[c + 1]? = some (.cells #[.pointer (some ⟨c, 0, none⟩)] 24 (0, 0)) ∧ W.heap[c + 2]? = some (.cells #[.int .i64 who] 3 (0, 0)) ∧ Below w.heap.size w W ∧ w.heap.size ≤ c ∧ RiseG hs
/-- the blocks that claims may have -/
def Fr (c : Nat) (Bx : Nat → Prop) : Prop := ∀ x, Bx x → x = c ∨ c + 3 < x
def B0 (c x : Nat) : Prop := x = c ∨ c + 3 < x
theorem fr0 (c : Nat) : Fr c (B0 c) := fun _ h => h

theorem SB.mono {Bx By : Nat → Prop} {w W : World} {c m m' : Nat} {who : Int} {gs hs : G} (h : SB Bx w W c who m gs hs) (hB : ∀ x, Bx x → By x) (hm : m ≤ m') : SB By w W c who m' gs hs := by
  obtain ⟨h1, h2, h3⟩ := h
  exact ⟨(h1.keep (fun _ _ _ => rfl) hB).mono hm, World.ownsMap.mono h2 hm, h3⟩
theorem SB.below {Bx : Nat → Prop} {w W W2 : World} {c m : Nat} {who : Int} {gs hs : G} (h : SB Bx w W c who m gs hs) (hb : Below W.heap.size W W2) : SB Bx w W2 c who m gs hs := by
  obtain ⟨h1, h2, h3, h4, h5, h6⟩ := h
  exact ⟨h1.below hb (Nat.le_refl _), h2.kept (hb.block _ h2.lt), (hb.block _ (Array.getElem?_eq_some_iff.1 h3).1).trans h3, (hb.block _ (Array.getElem?_eq_some_iff.1 h4).1).trans h4, h5.trans (hb.mono h5.size), h6⟩
/-- a new block that is none of the claims' -/
theorem SB.skip {Bx : Nat → Prop} {w W : World} {c m : Nat} {who : Int} {gs hs : G} (h : SB Bx w W c who m gs hs) (o : Obj) : SB (fun x => Bx x ∧ x ≠ W.heap.size) w (W.alloc o) c who m gs hs := by
  have h' := h.below ((Below.refl _ W).alloc (Nat.le_refl _) o)
  refine ⟨?_, h'.2⟩
  obtain ⟨h0, h1, mb, h2, h3⟩ := h.1
  have hlt := (Array.getElem?_eq_some_iff.1 h2).1
  refine ⟨h0, ⟨h1, by omega⟩, mb, (Below.heap_alloc W o c hlt).trans h2, ?_⟩
  rcases h3 with h3 | ⟨b, rfl, h4, h5, h6⟩
  · exact .inl h3
  · exact .inr ⟨b, rfl, ⟨h4, by have := h6.lt; omega⟩, h5, h6.kept (Below.heap_alloc W o b h6.lt)⟩
/-- claims have turned -/
theorem SB.kp {Bx : Nat → Prop} {w W W2 : World} {c m m' : Nat} {who : Int} {gs gs' hs : G} (h : SB Bx w W c who m gs hs) (hF : Fr c Bx) (hm : m ≤ m') (hc : CAt Bx W2 c m' gs') (hk : Kp W W2 Bx) : SB Bx w W2 c who m' gs' hs := by
  obtain ⟨h1, h2, h3, h4, h5, h6, h7⟩ := h
  have hn : ∀ x, x = c + 1 ∨ x = c + 2 ∨ x = c + 3 → ¬ Bx x := fun x hx hb => by
    rcases hF x hb with e | e <;> omega
  refine ⟨hc, World.ownsMap.mono (h2.kept (hk.2.2.2.2 _ h2.lt (hn _ (.inr (.inr rfl))))) hm, (hk.2.2.2.2 _ (Array.getElem?_eq_some_iff.1 h3).1 (hn _ (.inl rfl))).trans h3, (hk.2.2.2.2 _ (Array.getElem?_eq_some_iff.1 h4).1 (hn _ (.inr (.inl rfl)))).trans h4, h5.trans (hk.below (fun q hq => ?_) h5.size), h6, h7⟩
  rcases hF q hq with e | e <;> omega
/-- the law's map has turned -/
theorem SB.map {Bx : Nat → Prop} {w W W2 : World} {c m m' : Nat} {who : Int} {gs hs hs' : G} (h : SB Bx w W c who m gs hs) (hF : Fr c Bx) (hm : m ≤ m') (hr : RiseG hs') (ha : MapAt 9 W2 (c + 3) m' (toV hs')) (hg : W.grownBy W2 (some (c + 3))) : SB Bx w W2 c who m' gs hs' := by
  obtain ⟨h1, h2, h3, h4, h5, h6, h7⟩ := h
  refine ⟨(h1.keep (fun q hq hl => hg.block q hl fun e => ?_) fun _ h => h).mono hm, ha, (hg.block _ (Array.getElem?_eq_some_iff.1 h3).1 (by simp)).trans h3, (hg.block _ (Array.getElem?_eq_some_iff.1 h4).1 (by simp)).trans h4, h5.grown hg h5.size (fun q hq => ?_), h6, hr⟩
  · have e := Option.some.inj e
    rcases hF q hq with e2 | e2 <;> omega
  · have := Option.some.inj hq
    omega
theorem SB.asked {Bx : Nat → Prop} {w W : World} {c m : Nat} {who : Int} {gs hs : G} (h : SB Bx w W c who m gs hs) (k : ByteArray) (hk : k.size ≤ maxLen) :
    Calls Try.prog 13 #[.string k, .pointer (some ⟨c + 1, 0, none⟩), .pointer (some ⟨c + 2, 0, none⟩)] W fun e w' => e = .returned (.bool (otherG gs who k.data.toList)) ∧ W = w' :=
  asked_any h.1 who (c + 1) (c + 2) (cell_of_row W _ 0 _ _ (0, 0) h.2.2.1) (cell_of_row W _ 0 _ _ (0, 0) h.2.2.2.1) k hk
theorem SB.look {Bx : Nat → Prop} {w W : World} {c m : Nat} {who : Int} {gs hs : G} (h : SB Bx w W c who m gs hs) (k : ByteArray) (hk : k.size ≤ maxLen) :
    (Instr.lookup 28 (.map (some (c + 3))) (.string k) true).run Try.prog W = .ok (.tuple #[.int .i64 ((getG k.data.toList hs).getD 0), .bool (getG k.data.toList hs).isSome]) W := by
  have hr := MapAt.look (e := 3) h.2.1 Try.underlying9 Try.underlying28 (zero_i W) k hk true
  rw [hr, toV_get]
  cases getG k.data.toList hs <;> rfl
theorem SB.len {Bx : Nat → Prop} {w W : World} {c m : Nat} {who : Int} {gs hs : G} (h : SB Bx w W c who m gs hs) (ty : TypeId) :
    (Builtin.len_ #[28] ty #[.map (some (c + 3))]).run Try.prog W = .ok (.int .i64 hs.length) W := by
  have h7 := World.ownsMap.len (P := Try.prog) h.2.1 Try.underlying28 ty
  rw [toV_size] at h7
  exact h7

theorem SB.tail {Bx : Nat → Prop} {w W : World} {c m : Nat} {who : Int} {gs : G} (h : SB Bx w W c who m gs gs) (k : ByteArray) (hk : k.size ≤ maxLen) : ∃ (z : Int) (b o : Bool),
    (Instr.lookup 28 (.map (some (c + 3))) (.string k) true).run Try.prog W = .ok (.tuple #[.int .i64 z, .bool b]) W ∧
    ((b = false ∧ o = false) ∨ (b = true ∧ (z != who) = true ∧ o = true) ∨ (b = true ∧ (z != who) = false ∧ o = false)) ∧
    Calls Try.prog 13 #[.string k, .pointer (some ⟨c + 1, 0, none⟩), .pointer (some ⟨c + 2, 0, none⟩)] W (fun e w' => e = .returned (.bool o) ∧ W = w') ∧
    Calls Try.prog 11 #[.pointer (some ⟨c, 0, none⟩)] W (fun e w' => e = .returned (.int .i64 gs.length) ∧ W = w') ∧
    (Builtin.len_ #[28] 3 #[.map (some (c + 3))]).run Try.prog W = .ok (.int .i64 gs.length) W := by
  refine ⟨_, _, _, h.look k hk, ?_, h.asked k hk, len_any h.1, h.len 3⟩
  unfold otherG
  cases hg : getG k.data.toList gs with
  | none => exact .inl ⟨rfl, rfl⟩
  | some z =>
    by_cases e : (z != who) = true
    · exact .inr (.inl ⟨rfl, e, e⟩)
    · have e : (z != who) = false := by simpa using e
      exact .inr (.inr ⟨rfl, e, e⟩)

end Go.Proofs.Ytciknhilbemgdaa.claimActs
