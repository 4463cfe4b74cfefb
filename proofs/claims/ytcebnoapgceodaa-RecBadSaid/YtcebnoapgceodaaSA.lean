/-
  store: a store in memory; its plain reads: Low, Last, tells, chains, Get.
  store: Get: what belonged to a key behind a commit.
  chain: Cut: the pieces of its walk (a row made, a part copied).
  store: one version more of a key: the append, and Put of the tree.
  store: write: a commit's writes, laid behind what belonged to their keys.
  store: New: a store behind a commit.
-/
import Derived.Test.YtcebnoapgceodaaStWr
import Derived.Test.YtcebnoapgceodaaCsM
import Derived.Test.YtcebnoapgceodaaTPutNC
import Derived.Test.YtcebnoapgceodaaRowO
import Derived.StillTailTactics
import Derived.Laws.AppendOwnNone
import Derived.Deep.RegionLaw
import Derived.Deep.AppendLies
import Derived.Laws.OwnMore
import Derived.Deep.RegionWith
import Derived.Deep.RegionHeld3
import Derived.Test.YtcebnoapgceodaaStRight
section
namespace Go.Proofs.Ytcebnoapgceodaa.sT
open Go.RowKit Go.Proofs.Ytcebnoapgceodaa.tC

set_option linter.unusedVariables false
attribute [local irreducible] wpStill

structure CmM where
  seq : Int
  at_ : Int
  ws : List Wr
/-- a store, plainly: the commit behind which all are kept, the commits behind that, the keys with their versions -/
structure StM where
  low : Nat
  cms : List CmM
  keys : List (ByteArray × List Ver)

abbrev mkHd (a b : Value) : Inhabited Hd := ⟨⟨a, b⟩⟩

/-- the chains of a tree's values -/
def Chs (B : Nat → Prop) (W : World) : List KV → List (ByteArray × List Ver) → Prop
  | [], [] => True
  | p :: r, k :: q => p.1 = k.1 ∧ (RowK 187 3 0 W p.2 k.2.length (vrow k.2) ∧ ∀ b, p.2.ownBlock = some b → B b) ∧ Chs B W r q
  | _, _ => False
def WsAt (B : Nat → Prop) (W : World) (v : Value) (ws : List Wr) : Prop := RowK 48 3 0 W v ws.length (ws.flatMap wrcells) ∧ ∀ b, v.ownBlock = some b → B b
def CmsAt (B : Nat → Prop) (W : World) : List Value → List CmM → Prop
  | [], [] => True
  | v :: r, c :: q => WsAt B W v c.ws ∧ CmsAt B W r q
  | _, _ => False
def cmrow : List Value → List CmM → List Value
  | v :: r, c :: q => [.int .i64 c.seq, .int .i64 c.at_, v] ++ cmrow r q
  | _, _ => []

theorem Chs.keep {B B' : Nat → Prop} {W W' : World} : ∀ {l : List KV} {ks : List (ByteArray × List Ver)}, Chs B W l ks → (∀ q, B q → W'.heap[q]? = W.heap[q]? ∧ B' q) → Chs B' W' l ks
  | [], [], _, _ => trivial
  | p :: r, k :: q, ⟨h1, h2, h3⟩, hk => ⟨h1, ⟨h2.1.keep fun b hb => ⟨(hk b (h2.2 b hb)).1, Nat.zero_le _⟩, fun b hb => (hk b (h2.2 b hb)).2⟩, Chs.keep h3 hk⟩
  | _ :: _, [], h, _ => h.elim
  | [], _ :: _, h, _ => h.elim
theorem CmsAt.keep {B B' : Nat → Prop} {W W' : World} : ∀ {l : List Value} {cs : List CmM}, CmsAt B W l cs → (∀ q, B q → W'.heap[q]? = W.heap[q]? ∧ B' q) → CmsAt B' W' l cs
  | [], [], _, _ => trivial
  | v :: r, c :: q, ⟨h1, h2⟩, hk => ⟨⟨h1.1.keep fun b hb => ⟨(hk b (h1.2 b hb)).1, Nat.zero_le _⟩, fun b hb => (hk b (h1.2 b hb)).2⟩, CmsAt.keep h2 hk⟩
  | _ :: _, [], h, _ => h.elim
  | [], _ :: _, h, _ => h.elim

/-- a store in memory, with its parts -/
structure St (P : Nat → Prop) (W : World) (s : Nat) (M : StM) (cv : Value) (wvs : List Value) (ls : List (List KV)) (BT BC BM : Nat → Prop) : Prop where
  tree : @TreeAt (mkHd (.int .i64 M.low) cv) BT W s ls
  ch : Chs BC W ls.flatten M.keys
  ap : (ls.flatten.map Prod.snd).Pairwise Ap
  cm : RowO 45 3 0 W cv M.cms.length (cmrow wvs M.cms)
  cb : ∀ b, cv.ownBlock = some b → BM b
  ws : CmsAt BM W wvs M.cms
  bt : ∀ q, BT q → P q ∧ q < W.heap.size
  bc : ∀ q, BC q → P q ∧ q < W.heap.size ∧ ¬ BT q
  bm : ∀ q, BM q → P q ∧ q < W.heap.size ∧ ¬ BT q ∧ ¬ BC q
  sz : M.low + M.cms.length ≤ 1099511627776
def StoreAt (P : Nat → Prop) (W : World) (s : Nat) (M : StM) : Prop := ∃ cv wvs ls BT BC BM, St P W s M cv wvs ls BT BC BM

theorem St.keep {P P' : Nat → Prop} {W W' : World} {s : Nat} {M : StM} {cv : Value} {wvs : List Value} {ls : List (List KV)} {BT BC BM : Nat → Prop} (h : St P W s M cv wvs ls BT BC BM) (hz : W.heap.size ≤ W'.heap.size) (hk : ∀ q, P q → q < W.heap.size → (BT q ∨ BC q ∨ BM q) → W'.heap[q]? = W.heap[q]? ∧ P' q) : St P' W' s M cv wvs ls BT BC BM where
  tree := TreeAt.keep (hd := mkHd (.int .i64 M.low) cv) h.tree fun q hq hlt => ⟨(hk q (h.bt q hq).1 hlt (.inl hq)).1, hq⟩
  ch := h.ch.keep fun q hq => ⟨(hk q (h.bc q hq).1 (h.bc q hq).2.1 (.inr (.inl hq))).1, hq⟩
  ap := h.ap
  cm := h.cm.keep fun b hb => ⟨(hk b (h.bm b (h.cb b hb)).1 (h.bm b (h.cb b hb)).2.1 (.inr (.inr (h.cb b hb)))).1, Nat.zero_le _⟩
  cb := h.cb
  ws := h.ws.keep fun q hq => ⟨(hk q (h.bm q hq).1 (h.bm q hq).2.1 (.inr (.inr hq))).1, hq⟩
  bt := fun q hq => ⟨(hk q (h.bt q hq).1 (h.bt q hq).2 (.inl hq)).2, Nat.lt_of_lt_of_le (h.bt q hq).2 hz⟩
  bc := fun q hq => ⟨(hk q (h.bc q hq).1 (h.bc q hq).2.1 (.inr (.inl hq))).2, Nat.lt_of_lt_of_le (h.bc q hq).2.1 hz, (h.bc q hq).2.2⟩
  bm := fun q hq => ⟨(hk q (h.bm q hq).1 (h.bm q hq).2.1 (.inr (.inr hq))).2, Nat.lt_of_lt_of_le (h.bm q hq).2.1 hz, (h.bm q hq).2.2⟩
  sz := h.sz
theorem St.below {P : Nat → Prop} {W W' : World} {s : Nat} {M : StM} {cv : Value} {wvs : List Value} {ls : List (List KV)} {BT BC BM : Nat → Prop} (h : St P W s M cv wvs ls BT BC BM) (hb : Below W.heap.size W W') : St P W' s M cv wvs ls BT BC BM :=
  h.keep hb.size fun q hq hlt _ => ⟨hb.block q hlt, hq⟩
theorem StoreAt.below {P : Nat → Prop} {W W' : World} {s : Nat} {M : StM} (h : StoreAt P W s M) (hb : Below W.heap.size W W') : StoreAt P W' s M := by
  obtain ⟨cv, wvs, ls, BT, BC, BM, h⟩ := h
  exact ⟨cv, wvs, ls, BT, BC, BM, h.below hb⟩

/-- the store's own cells -/
theorem St.reads {P : Nat → Prop} {W : World} {s : Nat} {M : StM} {cv : Value} {wvs : List Value} {ls : List (List KV)} {BT BC BM : Nat → Prop} (h : St P W s M cv wvs ls BT BC BM) :
    W.cell? ⟨s, 0, none⟩ = some (.int .i64 M.low) ∧ (∃ a c, cv = .slice a M.cms.length c ∧ M.cms.length ≤ c ∧ c ≤ maxLen) ∧ W.cell? ⟨s, 1, none⟩ = some cv := by
  obtain ⟨la, lc, hb⟩ := TreeAt.box (hd := mkHd (.int .i64 M.low) cv) h.tree
  exact ⟨hb.cell 0, h.cm.form, hb.cell 1⟩

theorem low_any {P : Nat → Prop} {W : World} {s : Nat} {M : StM} (h : StoreAt P W s M) : Calls Try.prog 17 #[.pointer (some ⟨s, 0, none⟩)] W fun e w' => e = .returned (.int .i64 M.low) ∧ W = w' := by
  obtain ⟨cv, wvs, ls, BT, BC, BM, h⟩ := h
  obtain ⟨h1, _, _⟩ := h.reads
  clear h
  go_enter Try.func17, Try.ntmps17
  go_wp2
  go_ret
  exact ⟨rfl, rfl⟩

/-- the last commit -/
def StM.last (M : StM) : Nat := M.low + M.cms.length

theorem stLast_any {P : Nat → Prop} {W : World} {s : Nat} {M : StM} (h : StoreAt P W s M) : Calls Try.prog 18 #[.pointer (some ⟨s, 0, none⟩)] W fun e w' => e = .returned (.int .i64 M.last) ∧ Below W.heap.size W w' := by
  obtain ⟨cv, wvs, ls, BT, BC, BM, h⟩ := h
  obtain ⟨h1, ⟨a, c, rfl, h2, h3⟩, h4⟩ := h.reads
  have hsz := h.sz
  have HL : Hid ((M.last : Int) = (M.low : Int) + (M.cms.length : Int)) := Lib.hid (by unfold StM.last; omega)
  clear h
  have hw : IntKind.i64.wrap ((M.low : Int) + (M.cms.length : Int)) = (M.low : Int) + (M.cms.length : Int) := by rw [IntKind.wrap_i64]; omega
  go_enter Try.func18, Try.ntmps18
  go_wp2_with fail
  refine wp_region_still_lit (by kernel_rfl) (by kernel_rfl) ?_
  change wpStill _ _ (World.drew _) (fun a' => _) _ _
  repeat still_step
  refine wpStill_nil ?_
  go_wp2
  go_ret
  exact ⟨by rw [HL.out]; rfl, (Below.refl _ _).drew⟩

/-- whether the store knows what there was behind a commit -/
def StM.tells (M : StM) (seq : Int) : Bool := decide ((M.low : Int) ≤ seq) && decide (seq ≤ (M.last : Int))

theorem tells_any {P : Nat → Prop} {W : World} {s : Nat} {M : StM} (h : StoreAt P W s M) (seq : Int) : Calls Try.prog 54 #[.pointer (some ⟨s, 0, none⟩), .int .i64 seq] W fun e w' => e = .returned (.bool (M.tells seq)) ∧ Below W.heap.size W w' := by
  have hL := low_any h
  have hA := stLast_any h
  have HT : Hid (M.tells seq = (decide ((M.low : Int) ≤ seq) && decide (seq ≤ (M.last : Int)))) := Lib.hid rfl
  obtain ⟨lo, hlo⟩ : ∃ lo : Nat, lo = M.low := ⟨_, rfl⟩
  obtain ⟨la, hla⟩ : ∃ la : Nat, la = M.last := ⟨_, rfl⟩
  rw [← hlo, ← hla] at HT
  rw [← hlo] at hL
  rw [← hla] at hA
  have HA := Lib.hid hA
  clear h hlo hla hA
  by_cases h1 : (lo : Int) ≤ seq
  · have HT2 : Hid (M.tells seq = decide (seq ≤ (la : Int))) := Lib.hid (by rw [HT.out]; simp [h1])
    go_enter Try.func54, Try.ntmps54
    go_wp2_with fail
    refine hL.mono ?_
    rintro e w1 ⟨rfl, rfl⟩
    go_wp2_with fail
    refine HA.out.mono ?_
    rintro e w1 ⟨rfl, hb⟩
    have HB := Lib.hid hb
    clear hb
    go_wp2
    go_ret
    exact ⟨by rw [HT2.out]; rfl, HB.out⟩
  · have HT2 : Hid (M.tells seq = false) := Lib.hid (by rw [HT.out]; simp [h1])
    go_enter Try.func54, Try.ntmps54
    go_wp2_with fail
    refine hL.mono ?_
    rintro e w1 ⟨rfl, rfl⟩
    go_wp2
    go_ret
    exact ⟨by rw [HT2.out]; rfl, Below.refl _ _⟩

theorem chains_any (s : Nat) (W : World) : Calls Try.prog 55 #[.pointer (some ⟨s, 0, none⟩)] W fun e w' => e = .returned (.pointer (some ⟨s, 2, none⟩)) ∧ W = w' := by
  go_enter Try.func55, Try.ntmps55
  go_wp2
  go_ret
  exact ⟨rfl, rfl⟩

end Go.Proofs.Ytcebnoapgceodaa.sT
end

section
namespace Go.Proofs.Ytcebnoapgceodaa.sT
open Go.RowKit Go.Proofs.Ytcebnoapgceodaa.tC

set_option linter.unusedVariables false

/-- how many versions there are up to a commit -/
def upN (vs : List Ver) (seq : Int) : Nat := vs.countP fun v => decide (v.seq ≤ seq)
theorem upTo_is {vs : List Ver} {seq : Int} {r : Nat} (h : UpTo vs seq r) : r = upN vs seq := by
  obtain ⟨h1, h2, h3⟩ := h
  have e : vs = vs.take r ++ vs.drop r := by rw [List.take_append_drop]
  unfold upN
  rw [e, List.countP_append, List.countP_eq_length.2, List.countP_eq_zero.2, List.length_take]
  · omega
  · intro x hx
    obtain ⟨j, hj, rfl⟩ := List.getElem_of_mem hx
    rw [List.length_drop] at hj
    have := h3 (r + j) (by omega) (by omega)
    rw [List.getElem_drop]
    simp only [decide_eq_true_eq]
    omega
  · intro x hx
    obtain ⟨j, hj, rfl⟩ := List.getElem_of_mem hx
    rw [List.length_take] at hj
    have := h2 j (by omega) (by omega)
    rw [List.getElem_take]
    simpa using this

def lookK (ks : List (ByteArray × List Ver)) (key : ByteArray) : Option (List Ver) := (ks.find? fun p => decide (p.1 = key)).map Prod.snd
theorem Chs.look {B : Nat → Prop} {W : World} (key : ByteArray) : ∀ {l : List KV} {ks : List (ByteArray × List Ver)}, Chs B W l ks →
    (getK l key = none ∧ lookK ks key = none) ∨ ∃ v vs, getK l key = some v ∧ lookK ks key = some vs ∧ (RowK 187 3 0 W v vs.length (vrow vs) ∧ ∀ b, v.ownBlock = some b → B b)
  | [], [], _ => .inl ⟨rfl, rfl⟩
  | p :: r, k :: q, ⟨h1, h2, h3⟩ => by
    by_cases hk : p.1 = key
    · refine .inr ⟨p.2, k.2, ?_, ?_, h2⟩
      · unfold getK; rw [List.find?_cons_of_pos (by simpa using hk)]; rfl
      · unfold lookK; rw [List.find?_cons_of_pos (by simpa [← h1] using hk)]; rfl
    · have e1 : getK (p :: r) key = getK r key := by unfold getK; rw [List.find?_cons_of_neg (by simpa using hk)]
      have e2 : lookK (k :: q) key = lookK q key := by unfold lookK; rw [List.find?_cons_of_neg (by simpa [← h1] using hk)]
      rw [e1, e2]
      exact Chs.look key h3
  | _ :: _, [], h => h.elim
  | [], _ :: _, h => h.elim

theorem vers_of_row {W : World} {a : Option Addr} {c : Nat} {vs : List Ver} (h : RowK 187 3 0 W (.slice a vs.length c) vs.length (vrow vs)) (hl : vs.length ≤ 1000000) : ChIs W a vs := by
  refine ⟨by omega, ?_⟩
  by_cases h0 : vs = []
  · exact .inl h0
  · obtain ⟨g, rfl, _, hlt, hc⟩ := h.at_ (List.length_pos_iff.2 h0)
    refine .inr ⟨g, 0, rfl, hlt, fun i hi => ?_⟩
    have h1 : ∀ j, j < 3 → ∀ u, (vcells (vs[i]))[j]? = some u → W.cell? ⟨g, i * 3 + j, none⟩ = some u := fun j hj u hu => hc _ _ ((vrow_get vs i hi j hj).trans hu)
    rw [Nat.zero_add]
    exact ⟨h1 0 (by omega) _ rfl, h1 1 (by omega) _ rfl, h1 2 (by omega) _ rfl⟩

/-- the chains rise, and are no longer than the walks can count -/
def GoodM (M : StM) : Prop := ∀ k ∈ M.keys, Rise k.2 ∧ k.2.length ≤ 1000000
theorem look_mem {ks : List (ByteArray × List Ver)} {key : ByteArray} {vs : List Ver} (h : lookK ks key = some vs) : ∃ k ∈ ks, k.2 = vs := by
  unfold lookK at h
  obtain ⟨p, hp, rfl⟩ := Option.map_eq_some_iff.1 h
  exact ⟨p, List.mem_of_find?_eq_some hp, rfl⟩

/-- the chain of a key -/
def StM.chain (M : StM) (key : ByteArray) : List Ver := (lookK M.keys key).getD []
/-- what belonged to a key behind a commit -/
def StM.get (M : StM) (key : ByteArray) (seq : Int) : ByteArray × Bool := if M.tells seq then atR (M.chain key) (upN (M.chain key) seq) else (⟨#[]⟩, false)

/-- a chain, as Get of the tree answers it -/
theorem treeGet_any {P : Nat → Prop} {W : World} {s : Nat} {M : StM} (h : StoreAt P W s M) (hg : GoodM M) (key : ByteArray) :
    Calls Try.prog 56 #[.pointer (some ⟨s, 2, none⟩), .string key] W fun e w' =>
      ∃ a c, e = .returned (.tuple #[.slice a (M.chain key).length c, .bool (lookK M.keys key).isSome]) ∧ ChIs W a (M.chain key) ∧ Below W.heap.size W w' := by
  obtain ⟨cv, wvs, ls, BT, BC, BM, h⟩ := h
  refine (get_any (hd := mkHd (.int .i64 M.low) cv) h.tree key).mono ?_
  rintro e w' ⟨rfl, hb⟩
  rcases h.ch.look key with ⟨h1, h2⟩ | ⟨v, vs, h1, h2, h3, _⟩
  · refine ⟨none, 0, ?_, ?_, hb⟩
    · rw [h1]; unfold StM.chain; rw [h2]; rfl
    · unfold StM.chain; rw [h2]; exact ⟨by simp, .inl rfl⟩
  · obtain ⟨a, c, rfl, _⟩ := h3.form
    obtain ⟨k, hk, e⟩ := look_mem h2
    refine ⟨a, c, ?_, ?_, hb⟩
    · rw [h1]; unfold StM.chain; rw [h2]; rfl
    · unfold StM.chain; rw [h2]; exact vers_of_row h3 (by rw [← e]; exact (hg k hk).2)

set_option maxHeartbeats 1000000 in
theorem stGet_any {P : Nat → Prop} {W : World} {s : Nat} {M : StM} (h : StoreAt P W s M) (hg : GoodM M) (key : ByteArray) (seq : Int) :
    Calls Try.prog 21 #[.pointer (some ⟨s, 0, none⟩), .string key, .int .i64 seq] W fun e w' => e = .returned (.tuple #[.string (M.get key seq).1, .bool (M.get key seq).2]) ∧ Below W.heap.size W w' := by
  have hT := tells_any h seq
  have hC := chains_any s
  have HG := Lib.hid fun W' (hb : Below W.heap.size W W') => treeGet_any (h.below hb) hg key
  have HM : Hid (M.get key seq = if M.tells seq then atR (M.chain key) (upN (M.chain key) seq) else (⟨#[]⟩, false)) := Lib.hid rfl
  have hrise : Rise (M.chain key) ∧ (M.chain key).length ≤ 1000000 := by
    unfold StM.chain
    cases hl : lookK M.keys key with
    | none => exact ⟨fun i j _ hj => absurd hj (by simp), by simp⟩
    | some vs =>
      obtain ⟨k, hk, e⟩ := look_mem hl
      rw [← e]
      exact hg k hk
  have HR := Lib.hid hrise
  have HC := Lib.hid hC
  clear hrise hC h hg
  cases ht : M.tells seq
  · have HM2 : Hid (M.get key seq = (⟨#[]⟩, false)) := Lib.hid (by rw [HM.out, ht]; rfl)
    rw [ht] at hT
    clear ht
    go_enter Try.func21, Try.ntmps21
    go_wp2_with fail
    refine hT.mono ?_
    rintro e w1 ⟨rfl, hb⟩
    have HB := Lib.hid hb
    clear hb
    go_wp2
    refine bodyPost_ret (v := .tuple #[.string ⟨#[]⟩, .bool false]) (by simp [results, Try.results21, go_sem]) rfl ⟨by rw [HM2.out], HB.out⟩
  · have HM2 : Hid (M.get key seq = atR (M.chain key) (upN (M.chain key) seq)) := Lib.hid (by rw [HM.out, ht]; rfl)
    rw [ht] at hT
    clear ht
    obtain ⟨vs, hvs⟩ : ∃ vs, vs = M.chain key := ⟨_, rfl⟩
    rw [← hvs] at HM2 HR HG
    clear hvs
    go_enter Try.func21, Try.ntmps21
    go_wp2_with fail
    refine hT.mono ?_
    rintro e w1 ⟨rfl, hb⟩
    have HB := Lib.hid hb
    clear hb hT
    go_wp2_with fail
    refine (HC.out w1).mono ?_
    rintro e w2 ⟨rfl, rfl⟩
    go_wp2_with fail
    refine (HG.out w1 HB.out).mono ?_
    rintro e w3 ⟨a, c, rfl, hch, hb3⟩
    have HA := Lib.hid (at_any a c vs seq w3 (hch.below hb3) (by have := HR.out.2; omega) HR.out.1)
    have HB3 := Lib.hid (HB.out.trans (hb3.mono HB.out.size))
    clear hch hb3
    go_wp2_with fail
    refine HA.out.mono ?_
    rintro e w4 ⟨⟨r, hr, rfl⟩, hb4⟩
    have HB4 := Lib.hid (HB3.out.trans (hb4.mono HB3.out.size))
    have HV : Hid (r = upN vs seq) := Lib.hid (upTo_is hr)
    clear hr hb4 HA
    go_wp2
    refine bodyPost_ret (v := .tuple #[.string (atR vs r).1, .bool (atR vs r).2]) (by simp [results, Try.results21, go_sem]) rfl ⟨by rw [HM2.out, HV.out], HB4.out⟩

end Go.Proofs.Ytcebnoapgceodaa.sT
end

section
namespace Go.Proofs.Ytcebnoapgceodaa.sT
open Go.RowKit Go.Proofs.Ytcebnoapgceodaa.tC

set_option linter.unusedVariables false

theorem vrow_oneL : ∀ (vs : List Ver), ∀ u ∈ vrow vs, u.oneCell' = true
  | [], _, h => by simp [vrow] at h
  | v :: r, u, h => by
    rcases List.mem_append.1 h with h | h
    · simp [vcells] at h
      rcases h with rfl | rfl | rfl <;> rfl
    · exact vrow_oneL r u h

theorem ver_make (n : Nat) (hn : n ≤ 1000000) :
    ∃ arr : Array Value, arr.size = n * 3 ∧ ∀ w, (Instr.makeSlice 108 (.int .i64 (n : Int)) (.int .i64 (n : Int))).run Try.prog w = .ok (.slice (some ⟨w.heap.size, 0, none⟩) n n) (w.alloc (.cells arr 187)) := by
  obtain ⟨i, hi, hz, hi1, hi2⟩ := info_parts infoVer
  refine ⟨madeCells (Value.agg #[.int .i64 0, .string ⟨#[]⟩, .bool false]).cells (n * 3), by rw [size_madeCells], fun w => ?_⟩
  have h2 : i.bytes * n ≤ 200 * 1000000 := by rw [hi2]; omega
  have h := run_makeSlice (P := Try.prog) w 108 187 i _ Try.underlying108 hi hz .i64 .i64 (n : Int) (n : Int) (by omega) (Int.le_refl _) (by rw [hi1]; simp only [Int.toNat_natCast]; omega) (by rw [← Int.natCast_mul]; omega) (by omega)
  rw [hi1] at h
  simpa using h
theorem ver_slice (g n c i : Nat) (h : i ≤ n) (h2 : n ≤ c) : ∃ off, (∀ W, (Instr.slice 108 (.slice (some ⟨g, 0, none⟩) n c) (some (.int .i64 (i : Int))) none none).run Try.prog W = .ok (.slice (some ⟨g, off, none⟩) (n - i) (c - i)) W) ∧ (i < n → off = i * 3) ∧ off = (if c = i then 0 else i * 3) := by
  have h1 : (i : Int) ≤ (n : Int) := by omega
  have h3 : (n : Int) ≤ (c : Int) := by omega
  by_cases hc : c = i
  · refine ⟨0, fun W => ?_, fun h => by omega, by rw [if_pos hc]⟩
    subst hc
    go_simp
  · refine ⟨i * 3, fun W => ?_, fun _ => rfl, by rw [if_neg hc]⟩
    go_simp
theorem vrow_drop : ∀ (vs : List Ver) (f : Nat), vrow (vs.drop f) = (vrow vs).drop (f * 3)
  | vs, 0 => by simp
  | [], f + 1 => by simp [vrow]
  | v :: r, f + 1 => by
    rw [List.drop_succ_cons, vrow_drop r f, vrow, show (f + 1) * 3 = 3 + f * 3 by omega, ← List.drop_drop]
    rfl

set_option maxRecDepth 100000 in
theorem cut_tail {W : World} {g c : Nat} {vs : List Ver} (h : RowK 187 3 0 W (.slice (some ⟨g, 0, none⟩) vs.length c) vs.length (vrow vs)) (hl : vs.length ≤ 1000000) (f : Nat) (hf : f ≤ vs.length) :
    ∃ (arr : Array Value) (off : Nat) (W2 : World), (∀ w, (Instr.makeSlice 108 (.int .i64 ((vs.length - f : Nat) : Int)) (.int .i64 ((vs.length - f : Nat) : Int))).run Try.prog w = .ok (.slice (some ⟨w.heap.size, 0, none⟩) (vs.length - f) (vs.length - f)) (w.alloc (.cells arr 187))) ∧
      off = (if c = f then 0 else f * 3) ∧
      (∀ ty, (Builtin.copy_ #[108, 108] ty #[.slice (some ⟨W.heap.size, 0, none⟩) (vs.length - f) (vs.length - f), .slice (some ⟨g, off, none⟩) (vs.length - f) (c - f)]).run Try.prog (W.alloc (.cells arr 187)) = .ok (goInt ((vs.length - f : Nat) : Int)) W2) ∧
      RowK 187 3 W.heap.size W2 (.slice (some ⟨W.heap.size, 0, none⟩) (vs.length - f) (vs.length - f)) (vs.length - f) (vrow (vs.drop f)) ∧ Below W.heap.size W W2 := by
  obtain ⟨a0, c0, e0, hc1, hc2⟩ := h.form
  injection e0 with _ _ e0
  subst e0
  obtain ⟨arr, harr, hmk⟩ := ver_make (vs.length - f) (by omega)
  obtain ⟨off, hsl, hoff, hofe⟩ := ver_slice g vs.length c f hf hc1
  have hbW : Below W.heap.size W (W.alloc (.cells arr 187)) := (Below.refl _ _).alloc (Nat.le_refl _) _
  have hcl : (vrow (vs.drop f)).length = (vs.length - f) * 3 := by rw [vrow_len, List.length_drop]
  have hsome : ∀ j, j < (vrow (vs.drop f)).length → ((W.alloc (.cells arr 187)).cell? ⟨W.heap.size, 0 + j, none⟩).isSome = true := fun j hj => by
    rw [World.cell?_alloc_at _ _ _ _ (by omega)]; simp; omega
  have hfr : ∀ j, (W.alloc (.cells arr 187)).frozen? ⟨W.heap.size, 0 + j, none⟩ = false := fun j => by simp
  obtain ⟨i, hi, hz, hi1, hi2⟩ := info_parts infoVer
  refine ⟨arr, off, (W.alloc (.cells arr 187)).setCells W.heap.size 0 (vrow (vs.drop f)), hmk, hofe, fun ty => ?_, ?_, ?_⟩
  · refine run_copy_cellsK _ 108 108 ty 187 3 W.heap.size 0 (vs.length - f) (vs.length - f) ⟨g, off, none⟩ (vs.length - f) (c - f) (vs.length - f) (vrow (vs.drop f)) Try.underlying108 (by rw [hi]; simp [hi1]) (by simp) hcl (fun j v hj => ?_) hsome (fun j _ => hfr j) (fun u hu => vrow_oneL _ u hu)
    have hj2 : j < (vs.length - f) * 3 := by rw [← hcl]; exact (List.getElem?_eq_some_iff.1 hj).1
    have hoff2 := hoff (by omega)
    rw [vrow_drop, List.getElem?_drop] at hj
    obtain ⟨g2, e2, _, hlt, hcells⟩ := h.at_ (by omega)
    injection e2 with e2
    injection e2 with e2
    subst e2
    rw [addr_off, hoff2]
    exact (hbW.cell (p := ⟨g, f * 3 + j, none⟩) hlt).trans (hcells _ _ hj)
  · rw [setCells_sets]
    have hb := Box.sets (vrow (vs.drop f)) 0 (Box.new W 187 arr)
    refine RowK.mk hb (by rw [aset_size, harr]) (Nat.le_refl _) (Nat.le_refl _) (by unfold maxLen; omega) hcl (fun q hq => ?_) (fun u hu => vrow_oneL _ u hu)
    have hq2 : q < (vrow (vs.drop f)).length := by rw [hcl]; exact hq
    have := aset_get (vrow (vs.drop f)) arr 0 (by rw [hcl, harr]; omega) q _ (List.getElem?_eq_getElem hq2)
    rw [Nat.zero_add] at this
    rw [this, List.getElem?_eq_getElem hq2]
  · rw [setCells_sets]
    exact Below.sets _ 0 hbW (Nat.le_refl _)

/-- where what is kept begins -/
def firstC (vs : List Ver) (r : Nat) : Nat := match (vs.take r).getLast? with
  | none => r
  | some v => if v.gone then r else r - 1
theorem firstC_zero (vs : List Ver) : firstC vs 0 = 0 := rfl
theorem firstC_at (vs : List Ver) (m : Nat) (h : m < vs.length) : firstC vs (m + 1) = if (vs[m]).gone then m + 1 else m := by
  unfold firstC
  rw [List.take_succ_eq_append_getElem h, List.getLast?_concat]
  rfl
def cutV (vs : List Ver) (seq : Int) : List Ver := vs.drop (firstC vs (upN vs seq))
def CutP (W : World) (vs : List Ver) (seq : Int) (e : Ending) (W' : World) : Prop := ∃ a c, e = .returned (.slice a (cutV vs seq).length c) ∧ RowK 187 3 W.heap.size W' (.slice a (cutV vs seq).length c) (cutV vs seq).length (vrow (cutV vs seq)) ∧ Below W.heap.size W W'

set_option maxHeartbeats 2000000 in
set_option maxRecDepth 100000 in
theorem cut_some {W : World} {g c : Nat} {vs : List Ver} (h : RowK 187 3 0 W (.slice (some ⟨g, 0, none⟩) vs.length c) vs.length (vrow vs)) (hl : vs.length ≤ 1000000) (hr : Rise vs) (seq : Int) :
    Calls Try.prog 132 #[.slice (some ⟨g, 0, none⟩) vs.length c, .int .i64 seq] W (CutP W vs seq) := by
  have HU := Lib.hid (upto_any (some ⟨g, 0, none⟩) c vs seq W (vers_of_row h hl) (by omega) hr)
  have HT : Hid (∀ w2, Below W.heap.size W w2 → ∀ r, r = upN vs seq → firstC vs r ≤ vs.length → ∃ (arr : Array Value) (off : Nat) (W2 : World), (∀ w, (Instr.makeSlice 108 (.int .i64 ((vs.length - firstC vs r : Nat) : Int)) (.int .i64 ((vs.length - firstC vs r : Nat) : Int))).run Try.prog w = .ok (.slice (some ⟨w.heap.size, 0, none⟩) (vs.length - firstC vs r) (vs.length - firstC vs r)) (w.alloc (.cells arr 187))) ∧
      off = (if c = firstC vs r then 0 else firstC vs r * 3) ∧
      (∀ ty, (Builtin.copy_ #[108, 108] ty #[.slice (some ⟨w2.heap.size, 0, none⟩) (vs.length - firstC vs r) (vs.length - firstC vs r), .slice (some ⟨g, off, none⟩) (vs.length - firstC vs r) (c - firstC vs r)]).run Try.prog (w2.alloc (.cells arr 187)) = .ok (goInt ((vs.length - firstC vs r : Nat) : Int)) W2) ∧ Hid (CutP W vs seq (.returned (.slice (some ⟨w2.heap.size, 0, none⟩) (vs.length - firstC vs r) (vs.length - firstC vs r))) W2)) := Lib.hid fun w2 hb r e hf => by
    obtain ⟨arr, off, W2, h1, h2, h3, h4, h5⟩ := cut_tail (h.below hb) hl (firstC vs r) hf
    have e2 : (cutV vs seq).length = vs.length - firstC vs r := by unfold cutV; rw [List.length_drop, e]
    refine ⟨arr, off, W2, h1, h2, h3, Lib.hid ⟨_, _, by rw [e2], ?_, hb.trans (h5.mono hb.size)⟩⟩
    rw [e2]
    have e3 : cutV vs seq = vs.drop (firstC vs r) := by unfold cutV; rw [e]
    rw [e3]
    exact h4.keep fun q hq => ⟨rfl, Nat.le_trans hb.size (h4.lt q hq).1⟩
  have HC : Hid (∀ w2, Below W.heap.size W w2 → ∀ m, m < vs.length → w2.cell? ⟨g, m * 3 + 2, none⟩ = (vs[m]?).map fun v => .bool v.gone) := Lib.hid fun w2 hb m hm => by
    obtain ⟨g2, e2, _, hlt, hcells⟩ := (h.below hb).at_ (by omega)
    injection e2 with e2
    injection e2 with e2
    subst e2
    rw [hcells (m * 3 + 2) _ ((vrow_get vs m hm 2 (by omega)).trans rfl), List.getElem?_eq_getElem hm]
    rfl
  have hc1 : vs.length ≤ c := by
    obtain ⟨_, _, e0, hc1, _⟩ := h.form
    injection e0 with _ _ e0
    subst e0
    exact hc1
  obtain ⟨Q, hQ⟩ : ∃ Q, Q = CutP W vs seq := ⟨_, rfl⟩
  rw [← hQ] at HT ⊢
  clear h hr hQ
  go_enter Try.func132, Try.ntmps132
  go_wp2_with fail
  refine HU.out.mono ?_
  rintro e w2 ⟨⟨r, hru, rfl⟩, hb⟩
  have hrl := hru.1
  have HRN := Lib.hid (upTo_is hru)
  have HB := Lib.hid hb
  clear hru hb HU
  cases r with
  | zero =>
    have HFC : Hid (firstC vs 0 = 0) := Lib.hid (firstC_zero vs)
    have hlI : IntKind.i64.wrap (vs.length : Int) = (vs.length : Int) := by rw [IntKind.wrap_i64]; omega
    obtain ⟨arr, off, W2, hmk, hsl, hcp, hF⟩ := HT.out w2 HB.out _ HRN.out (by rw [HFC.out]; omega)
    rw [HFC.out] at hmk hsl hcp hF
    simp only [Nat.sub_zero] at hmk hcp hF
    obtain rfl : off = 0 := by rw [hsl]; split <;> rfl
    clear hsl
    clear hrl
    go_wp2_with (refine wpList_copy_runK _ rfl (.tmp 28) (.tmp 31) 108 108 rfl (.slice (some ⟨w2.heap.size, 0, none⟩) vs.length vs.length) (.slice (some ⟨g, off, none⟩) vs.length c) (by simp [Act.eval]) (by simp [Act.eval]) (hcp _) ?_)
    exact hF.out
  | succ m =>
    have hmI : (m : Int) < (vs.length : Int) := by omega
    have hm1 : IntKind.i64.wrap ((m : Int) + 1 - 1) = (m : Int) := by rw [IntKind.wrap_i64]; omega
    have hcell := HC.out w2 HB.out m (by omega)
    rw [List.getElem?_eq_getElem (show m < vs.length by omega)] at hcell
    have HFA := Lib.hid (firstC_at vs m (by omega))
    obtain ⟨gn, hgn⟩ : ∃ gn, gn = (vs[m]'(by omega)).gone := ⟨_, rfl⟩
    simp only [Option.map_some, ← hgn] at hcell
    have HGN := Lib.hid hgn
    clear hgn
    cases gn
    · have HFC : Hid (firstC vs (m + 1) = m) := Lib.hid (by rw [HFA.out, ← HGN.out]; rfl)
      have hlI : IntKind.i64.wrap ((vs.length : Int) - (m : Int)) = ((vs.length - m : Nat) : Int) := by rw [IntKind.wrap_i64]; omega
      obtain ⟨arr, off, W2, hmk, hsl, hcp, hF⟩ := HT.out w2 HB.out _ HRN.out (by rw [HFC.out]; omega)
      rw [HFC.out] at hmk hsl hcp hF
      have hcm : ¬ c = m := by omega
      rw [if_neg hcm] at hsl
      subst hsl
      go_wp2_with (refine wpList_copy_runK _ rfl (.tmp 28) (.tmp 31) 108 108 rfl (.slice (some ⟨w2.heap.size, 0, none⟩) (vs.length - m) (vs.length - m)) (.slice (some ⟨g, off, none⟩) (vs.length - m) (c - m)) (by simp [Act.eval]) (by simp [Act.eval]) (hcp _) ?_)
      exact hF.out
    · have HFC : Hid (firstC vs (m + 1) = m + 1) := Lib.hid (by rw [HFA.out, ← HGN.out]; rfl)
      have hlI : IntKind.i64.wrap ((vs.length : Int) - ((m : Int) + 1)) = ((vs.length - (m + 1) : Nat) : Int) := by rw [IntKind.wrap_i64]; omega
      obtain ⟨arr, off, W2, hmk, hsl, hcp, hF⟩ := HT.out w2 HB.out _ HRN.out (by rw [HFC.out]; omega)
      rw [HFC.out] at hmk hsl hcp hF
      by_cases hcm : c = m + 1
      · rw [if_pos hcm] at hsl
        subst hsl
        subst hcm
        simp only [Nat.sub_self] at hcp
        clear hc1
        go_wp2_with (refine wpList_copy_runK _ rfl (.tmp 28) (.tmp 31) 108 108 rfl (.slice (some ⟨w2.heap.size, 0, none⟩) (vs.length - (m + 1)) (vs.length - (m + 1))) (.slice (some ⟨g, off, none⟩) (vs.length - (m + 1)) 0) (by simp [Act.eval]) (by simp [Act.eval]) (hcp _) ?_)
        exact hF.out
      · rw [if_neg hcm] at hsl
        subst hsl
        go_wp2_with (refine wpList_copy_runK _ rfl (.tmp 28) (.tmp 31) 108 108 rfl (.slice (some ⟨w2.heap.size, 0, none⟩) (vs.length - (m + 1)) (vs.length - (m + 1))) (.slice (some ⟨g, off, none⟩) (vs.length - (m + 1)) (c - (m + 1))) (by simp [Act.eval]) (by simp [Act.eval]) (hcp _) ?_)
        exact hF.out

theorem copy_none (w : World) (ty : TypeId) (d : Addr) : (Builtin.copy_ #[108, 108] ty #[.slice (some d) 0 0, .slice none 0 0]).run Try.prog w = .ok (goInt 0) w := by
  obtain ⟨i, hi, hz, hi1, hi2⟩ := info_parts infoVer
  simp [Builtin.copy_, run_underlying Try.underlying108, Builtin.lenOf, Builtin.firstCells, sizeOf, typeInfo, hi, storeCells]

set_option maxHeartbeats 1000000 in
set_option maxRecDepth 100000 in
theorem cut_none (W : World) (seq : Int) : Calls Try.prog 132 #[.slice none 0 0, .int .i64 seq] W (CutP W [] seq) := by
  have HU := Lib.hid (upto_any none 0 [] seq W ⟨by simp, .inl rfl⟩ (by simp) (fun i j _ hj => absurd hj (by simp)))
  obtain ⟨arr, harr, hmk0⟩ := ver_make 0 (by omega)
  have hmk : ∀ w, (Instr.makeSlice 108 (.int .i64 0) (.int .i64 0)).run Try.prog w = .ok (.slice (some ⟨w.heap.size, 0, none⟩) 0 0) (w.alloc (.cells arr 187)) := hmk0
  clear hmk0
  have hF : ∀ w2, Below W.heap.size W w2 → CutP W [] seq (.returned (.slice (some ⟨w2.heap.size, 0, none⟩) 0 0)) (w2.alloc (.cells arr 187)) := fun w2 hb => by
    have e : cutV [] seq = [] := by unfold cutV; simp
    refine ⟨_, _, by rw [e]; rfl, ?_, hb.alloc hb.size _⟩
    rw [e]
    exact RowK.mk (c := 0) (Box.new w2 187 arr) (by rw [harr]) hb.size (Nat.le_refl _) (by omega) (by simp [vrow]) (fun q hq => absurd hq (by simp)) (fun u hu => by simp [vrow] at hu)
  have HF := Lib.hid hF
  obtain ⟨Q, hQ⟩ : ∃ Q, Q = CutP W [] seq := ⟨_, rfl⟩
  rw [← hQ] at HF ⊢
  clear hF hQ
  go_enter Try.func132, Try.ntmps132
  go_wp2_with fail
  refine HU.out.mono ?_
  rintro e w2 ⟨⟨r, hru, rfl⟩, hb⟩
  obtain rfl : r = 0 := by have := hru.1; simpa using this
  have H2 := Lib.hid (HF.out w2 hb)
  clear hru hb HU HF
  have hcp := fun ty => copy_none (w2.alloc (.cells arr 187)) ty ⟨w2.heap.size, 0, none⟩
  go_wp2_with (refine wpList_copy_runK _ rfl (.tmp 28) (.tmp 31) 108 108 rfl (.slice (some ⟨w2.heap.size, 0, none⟩) 0 0) (.slice none 0 0) (by simp [Act.eval]) (by simp [Act.eval]) (hcp _) ?_)
  exact H2.out

end Go.Proofs.Ytcebnoapgceodaa.sT
end

section
namespace Go.Proofs.Ytcebnoapgceodaa.sT
open Go.RowKit Go.Proofs.Ytcebnoapgceodaa.tC

set_option linter.unusedVariables false

theorem vrow_one : ∀ (vs : List Ver), ∀ u ∈ vrow vs, u.oneCell' = true
  | [], _, h => by simp [vrow] at h
  | v :: r, u, h => by
    rcases List.mem_append.1 h with h | h
    · simp [vcells] at h
      rcases h with rfl | rfl | rfl <;> rfl
    · exact vrow_one r u h

/-- an append of one version to a chain that is owned -/
theorem app_ver (W : World) (v : Value) (vs : List Ver) (h : RowK 187 3 0 W v vs.length (vrow vs)) (x : Ver) (p : Nat) (hp : W.heap[p]? = some (.cells (vcells x).toArray 187)) (hl : vs.length ≤ 1000000) (ty : TypeId) :
    ∃ a c W', (Builtin.append_ #[108, 108] ty #[v, .slice (some ⟨p, 0, none⟩) 1 1]).run Try.prog W = .ok (.slice a (vs.length + 1) c) W' ∧ RowK 187 3 0 W' (.slice a (vs.length + 1) c) (vs.length + 1) (vrow (vs ++ [x])) ∧ Up W v W' (.slice a (vs.length + 1) c) := by
  obtain ⟨i, hi, hz, hi1, hi2⟩ := info_parts infoVer
  have h1 : vrow [x] = vcells x := by simp [vrow]
  obtain ⟨v', W', hr, ho, hu⟩ := run_app (P := Try.prog) W 0 108 ty 187 i _ 3 32 Try.underlying108 hi hz hi1 hi2 rfl (by decide) v vs.length (vrow vs) h.1 ⟨p, 0, none⟩ 1 1 (vrow [x]) (vrow_len [x]) (fun j u hj => by
    rw [h1] at hj
    exact World.news_of_block hp j u (by simpa using hj)) (vrow_one [x]) (by unfold maxLen; omega) (by omega) (Nat.zero_le _)
  have hm : RowK 187 3 0 W' v' (vs.length + 1) (vrow (vs ++ [x])) := ⟨by rw [vrow_app]; exact ho, vrow_one _⟩
  obtain ⟨a, c, rfl, _⟩ := hm.form
  exact ⟨a, c, W', hr, hm, hu⟩

/-- the keys with one turned -/
def putM (ks : List (ByteArray × List Ver)) (key : ByteArray) (vs : List Ver) : List (ByteArray × List Ver) := ks.filter (fun p => decide (Lt p.1 key)) ++ (key, vs) :: ks.filter (fun p => decide (Lt key p.1))
/-- one version more -/
def StM.put1 (M : StM) (key : ByteArray) (x : Ver) : StM := { M with keys := putM M.keys key (M.chain key ++ [x]) }

theorem Chs.filter {B : Nat → Prop} {W : World} (f : ByteArray → Bool) : ∀ {l : List KV} {ks : List (ByteArray × List Ver)}, Chs B W l ks → Chs B W (l.filter fun p => f p.1) (ks.filter fun p => f p.1)
  | [], [], _ => trivial
  | p :: r, k :: q, ⟨h1, h2, h3⟩ => by
    by_cases hf : f p.1 = true
    · rw [List.filter_cons_of_pos (p := fun p : KV => f p.1) hf, List.filter_cons_of_pos (p := fun p : ByteArray × List Ver => f p.1) (by rw [← h1]; exact hf)]
      exact ⟨h1, h2, Chs.filter f h3⟩
    · rw [List.filter_cons_of_neg (p := fun p : KV => f p.1) hf, List.filter_cons_of_neg (p := fun p : ByteArray × List Ver => f p.1) (by rw [← h1]; exact hf)]
      exact Chs.filter f h3
  | _ :: _, [], h => h.elim
  | [], _ :: _, h => h.elim
theorem Chs.append {B : Nat → Prop} {W : World} : ∀ {a : List KV} {c : List (ByteArray × List Ver)} {b : List KV} {d : List (ByteArray × List Ver)}, Chs B W a c → Chs B W b d → Chs B W (a ++ b) (c ++ d)
  | [], [], _, _, _, h => h
  | p :: r, k :: q, _, _, ⟨h1, h2, h3⟩, h => ⟨h1, h2, Chs.append h3 h⟩
  | _ :: _, [], _, _, h, _ => h.elim
  | [], _ :: _, _, _, h, _ => h.elim
theorem Chs.keepIn {B B' : Nat → Prop} {W W' : World} : ∀ {l : List KV} {ks : List (ByteArray × List Ver)}, Chs B W l ks → (∀ p ∈ l, ∀ q, p.2.ownBlock = some q → B q → W'.heap[q]? = W.heap[q]? ∧ B' q) → Chs B' W' l ks
  | [], [], _, _ => trivial
  | p :: r, k :: q, ⟨h1, h2, h3⟩, hk => ⟨h1, ⟨h2.1.keep fun b hb => ⟨(hk p List.mem_cons_self b hb (h2.2 b hb)).1, Nat.zero_le _⟩, fun b hb => (hk p List.mem_cons_self b hb (h2.2 b hb)).2⟩, Chs.keepIn h3 fun p' hp' => hk p' (List.mem_cons_of_mem _ hp')⟩
  | _ :: _, [], h, _ => h.elim
  | [], _ :: _, h, _ => h.elim
theorem Chs.own {B : Nat → Prop} {W : World} : ∀ {l : List KV} {ks : List (ByteArray × List Ver)}, Chs B W l ks → ∀ p ∈ l, ∀ q, p.2.ownBlock = some q → B q
  | [], [], _, _, h => by simp at h
  | p :: r, k :: q, ⟨h1, h2, h3⟩, p', hp => by
    rcases List.mem_cons.1 hp with rfl | hp
    · exact h2.2
    · exact Chs.own h3 p' hp
  | _ :: _, [], h, _, _ => h.elim
  | [], _ :: _, h, _, _ => h.elim

theorem ap_of : ∀ {l : List KV}, (l.map Prod.snd).Pairwise Ap → ∀ p ∈ l, ∀ p' ∈ l, p.1 ≠ p'.1 → Ap p.2 p'.2
  | [], _, p, hp, _, _, _ => by simp at hp
  | a :: r, h, p, hp, p', hp', hne => by
    obtain ⟨h1, h2⟩ := List.pairwise_cons.1 (show (a.2 :: r.map Prod.snd).Pairwise Ap from h)
    rcases List.mem_cons.1 hp with e | hq
    · rcases List.mem_cons.1 hp' with e' | hq'
      · exact absurd (by rw [e, e']) hne
      · rw [e]; exact h1 _ (List.mem_map.2 ⟨p', hq', rfl⟩)
    · rcases List.mem_cons.1 hp' with e' | hq'
      · rw [e']; exact (h1 _ (List.mem_map.2 ⟨p, hq, rfl⟩)).symm
      · exact ap_of h2 p hq p' hq' hne
theorem getK_mem {l : List KV} {key : ByteArray} {v : Value} (h : getK l key = some v) : (key, v) ∈ l := by
  unfold getK at h
  obtain ⟨p, hp, rfl⟩ := Option.map_eq_some_iff.1 h
  have h1 := List.mem_of_find?_eq_some hp
  have h2 := List.find?_some hp
  simp only [decide_eq_true_eq] at h2
  rw [← h2]
  exact h1

/-- the chain of a key in memory: what Get answers -/
theorem St.chainOf {P : Nat → Prop} {W : World} {s : Nat} {M : StM} {cv : Value} {wvs : List Value} {ls : List (List KV)} {BT BC BM : Nat → Prop} (h : St P W s M cv wvs ls BT BC BM) (key : ByteArray) :
    ∃ a c, (getK ls.flatten key).getD (.slice none 0 0) = .slice a (M.chain key).length c ∧ RowK 187 3 0 W (.slice a (M.chain key).length c) (M.chain key).length (vrow (M.chain key)) ∧ ∀ q, (Value.slice a (M.chain key).length c).ownBlock = some q → BC q ∧ (key, Value.slice a (M.chain key).length c) ∈ ls.flatten := by
  rcases h.ch.look key with ⟨h1, h2⟩ | ⟨v, vs, h1, h2, h3, h4⟩
  · refine ⟨none, 0, ?_, ?_, fun q hq => by cases hq⟩
    · rw [h1]; unfold StM.chain; rw [h2]; rfl
    · unfold StM.chain; rw [h2]; exact ⟨World.ownsRow_nil W _ _ 3, fun u hu => by simp [vrow] at hu⟩
  · obtain ⟨a, c, rfl, _⟩ := h3.form
    have e : M.chain key = vs := by unfold StM.chain; rw [h2]; rfl
    rw [e]
    exact ⟨a, c, by rw [h1]; rfl, h3, fun q hq => ⟨h4 q hq, getK_mem h1⟩⟩

/-- THE STEP: a version behind the chain of a key, and the chain put into the tree -/
theorem put_step {P : Nat → Prop} {W : World} {s : Nat} {M : StM} {cv : Value} {wvs : List Value} {ls : List (List KV)} {BT BC BM : Nat → Prop} (h : St P W s M cv wvs ls BT BC BM) (key : ByteArray) (x : Ver) (hl : (M.chain key).length ≤ 1000000) (h50 : total ls < 50000)
    {p : Nat} (hp : W.heap[p]? = some (.cells (vcells x).toArray 187)) (ty : TypeId) {a : Option Addr} {c : Nat} (hv : (getK ls.flatten key).getD (.slice none 0 0) = .slice a (M.chain key).length c) :
    ∃ a2 c2 W1, (Builtin.append_ #[108, 108] ty #[.slice a (M.chain key).length c, .slice (some ⟨p, 0, none⟩) 1 1]).run Try.prog W = .ok (.slice a2 ((M.chain key).length + 1) c2) W1 ∧ (∀ q, q < W.heap.size → ¬ P q → W1.heap[q]? = W.heap[q]?) ∧
      Calls Try.prog 120 #[.pointer (some ⟨s, 2, none⟩), .string key, .slice a2 ((M.chain key).length + 1) c2] W1 fun e W2 => (∃ b, e = .returned (.bool b)) ∧ StoreAt (Nu P W.heap.size) W2 s (M.put1 key x) ∧ Ext P W W2 := by
  obtain ⟨a', c', e1, hrow, hown⟩ := h.chainOf key
  rw [hv] at e1
  injection e1 with e1 _ e2
  subst e1
  subst e2
  obtain ⟨a2, c2, W1, hrun, hrow2, hu⟩ := app_ver W _ _ hrow x p hp hl ty
  suffices hmain : (∀ q, q < W.heap.size → ¬ P q → W1.heap[q]? = W.heap[q]?) ∧ Calls Try.prog 120 #[.pointer (some ⟨s, 2, none⟩), .string key, .slice a2 ((M.chain key).length + 1) c2] W1 fun e W2 => (∃ b, e = .returned (.bool b)) ∧ StoreAt (Nu P W.heap.size) W2 s (M.put1 key x) ∧ Ext P W W2 from ⟨a2, c2, W1, hrun, hmain⟩
  have hsame : ∀ q, q < W.heap.size → (Value.slice a (M.chain key).length c).ownBlock ≠ some q → W1.heap[q]? = W.heap[q]? := fun q hq hne => hu.1.block q hq fun e => hne e.symm
  have hz1 := hu.1.size
  have hBT1 : ∀ q, BT q → W1.heap[q]? = W.heap[q]? := fun q hq => hsame q (h.bt q hq).2 fun e => (h.bc q (hown q e).1).2.2 hq
  have hT1 : @TreeAt (mkHd (.int .i64 M.low) cv) BT W1 s ls := TreeAt.keep (hd := mkHd (.int .i64 M.low) cv) h.tree fun q hq hlt => ⟨hBT1 q hq, hq⟩
  have hE1 : Ext P W W1 := ⟨hu.1.os, hu.1.tape, hu.1.output, hz1, fun q hq hn => hsame q hq fun e => hn (h.bc q (hown q e).1).1⟩
  refine ⟨hE1.2.2.2.2, (put_any (hd := mkHd (.int .i64 M.low) cv) hT1 h50 key (a2, (M.chain key).length + 1, c2)).mono ?_⟩
  rintro e W2 ⟨rfl, hE2, ls', hT2, hfl⟩
  have hz2 : W1.heap.size ≤ W2.heap.size := hE2.2.2.2.1
  have hk2 : ∀ q, q < W1.heap.size → ¬ BT q → W2.heap[q]? = W1.heap[q]? := fun q hq hn => hE2.2.2.2.2 q hq hn
  -- the new chain's block
  have hnew : ∀ q, (Value.slice a2 ((M.chain key).length + 1) c2).ownBlock = some q → q < W1.heap.size ∧ ((BC q ∧ (Value.slice a (M.chain key).length c).ownBlock = some q) ∨ W.heap.size ≤ q) := fun q hq => by
    refine ⟨(hrow2.lt q hq).2, ?_⟩
    rcases hu.2 with e | e
    · rw [e] at hq; exact .inl ⟨(hown q hq).1, hq⟩
    · exact .inr (e q hq)
  have hother : ∀ p' ∈ ls.flatten, p'.1 ≠ key → ∀ q, p'.2.ownBlock = some q → W2.heap[q]? = W.heap[q]? ∧ (Value.slice a (M.chain key).length c).ownBlock ≠ some q := fun p' hp' hne q hq => by
    have hB := h.ch.own p' hp' q hq
    obtain ⟨_, h2, h3⟩ := h.bc q hB
    have hn : (Value.slice a (M.chain key).length c).ownBlock ≠ some q := fun e => by
      have := ap_of h.ap _ (hown q e).2 p' hp' (fun e => hne e.symm)
      exact this q e hq
    exact ⟨(hk2 q (by omega) h3).trans (hsame q h2 hn), hn⟩
  have hBM : ∀ q, BM q → W2.heap[q]? = W.heap[q]? := fun q hq => by
    obtain ⟨_, h2, h3, h4⟩ := h.bm q hq
    exact (hk2 q (by omega) h3).trans (hsame q h2 fun e => h4 (hown q e).1)
  refine ⟨⟨_, rfl⟩, ⟨cv, wvs, ls', fun q => (BT q ∨ W1.heap.size ≤ q) ∧ q < W2.heap.size, fun q => BC q ∨ (Value.slice a2 ((M.chain key).length + 1) c2).ownBlock = some q, BM, ?_⟩, ?_⟩
  · refine { tree := ?_, ch := ?_, ap := ?_, cm := ?_, cb := h.cb, ws := ?_, bt := ?_, bc := ?_, bm := ?_, sz := h.sz }
    · exact TreeAt.keep (hd := mkHd (.int .i64 M.low) cv) hT2 fun q hq hlt => ⟨rfl, hq, hlt⟩
    · rw [hfl]
      unfold putK StM.put1 putM
      refine Chs.append ?_ ⟨rfl, ⟨?_, fun q hq => .inr hq⟩, ?_⟩
      · refine (h.ch.filter fun k => decide (Lt k key)).keepIn fun p' hp' q hq hB => ⟨(hother p' (List.mem_filter.1 hp').1 (lt_ne (by simpa using (List.mem_filter.1 hp').2)) q hq).1, .inl hB⟩
      · rw [List.length_append, List.length_singleton]
        exact hrow2.keep fun q hq => ⟨hk2 q (hnew q hq).1 (by
          rcases (hnew q hq).2 with ⟨h1, _⟩ | h1
          · exact (h.bc q h1).2.2
          · exact fun h2 => by have := (h.bt q h2).2; omega), Nat.zero_le _⟩
      · refine (h.ch.filter fun k => decide (Lt key k)).keepIn fun p' hp' q hq hB => ⟨(hother p' (List.mem_filter.1 hp').1 (fun e => lt_ne (by simpa using (List.mem_filter.1 hp').2) e.symm) q hq).1, .inl hB⟩
    · rw [hfl]
      unfold putK
      rw [List.map_append, List.map_cons, List.pairwise_append]
      have hmem : ∀ y, ∀ f : KV → Bool, y ∈ (ls.flatten.filter f).map Prod.snd → ∃ p' ∈ ls.flatten, f p' = true ∧ p'.2 = y := fun y f hy => by
        obtain ⟨p', hp', rfl⟩ := List.mem_map.1 hy
        exact ⟨p', (List.mem_filter.1 hp').1, (List.mem_filter.1 hp').2, rfl⟩
      have hapn : ∀ p' ∈ ls.flatten, p'.1 ≠ key → Ap (.slice a2 ((M.chain key).length + 1) c2) p'.2 := fun p' hp' hne q hq hq' => by
        rcases (hnew q hq).2 with ⟨_, h1⟩ | h1
        · exact (hother p' hp' hne q hq').2 h1
        · have := (h.bc q (h.ch.own p' hp' q hq')).2.1; omega
      refine ⟨h.ap.sublist (List.filter_sublist.map _), List.pairwise_cons.2 ⟨fun y hy => ?_, h.ap.sublist (List.filter_sublist.map _)⟩, fun y hy y' hy' => ?_⟩
      · obtain ⟨p', hp', hf, rfl⟩ := hmem y _ hy
        exact hapn p' hp' fun e => lt_ne (by simpa using hf) e.symm
      · obtain ⟨p', hp', hf, rfl⟩ := hmem y _ hy
        have hlt : Lt p'.1 key := by simpa using hf
        rcases List.mem_cons.1 hy' with rfl | hy'
        · exact (hapn p' hp' (lt_ne hlt)).symm
        · obtain ⟨p2, hp2, hf2, rfl⟩ := hmem y' _ hy'
          have hlt2 : Lt key p2.1 := by simpa using hf2
          exact ap_of h.ap p' hp' p2 hp2 (lt_ne (hlt.trans hlt2))
    · exact h.cm.keep fun q hq => ⟨hBM q (h.cb q hq), Nat.zero_le _⟩
    · exact h.ws.keep fun q hq => ⟨hBM q hq, hq⟩
    · rintro q ⟨hq | hq, hlt⟩
      · exact ⟨.inl (h.bt q hq).1, hlt⟩
      · exact ⟨.inr (by omega), hlt⟩
    · intro q hq
      have hcase : (BC q ∧ q < W.heap.size) ∨ (W.heap.size ≤ q ∧ q < W1.heap.size) := by
        rcases hq with hq | hq
        · exact .inl ⟨hq, (h.bc q hq).2.1⟩
        · obtain ⟨h1, ⟨h2, _⟩ | h2⟩ := hnew q hq
          · exact .inl ⟨h2, (h.bc q h2).2.1⟩
          · exact .inr ⟨h2, h1⟩
      rcases hcase with ⟨h1, h2⟩ | ⟨h1, h2⟩
      · refine ⟨.inl (h.bc q h1).1, by omega, ?_⟩
        rintro ⟨h3 | h3, _⟩
        · exact (h.bc q h1).2.2 h3
        · omega
      · refine ⟨.inr h1, by omega, ?_⟩
        rintro ⟨h3 | h3, _⟩
        · have := (h.bt q h3).2; omega
        · omega
    · intro q hq
      obtain ⟨h1, h2, h3, h4⟩ := h.bm q hq
      refine ⟨.inl h1, by omega, ?_, ?_⟩
      · rintro ⟨h5 | h5, _⟩
        · exact h3 h5
        · omega
      · rintro (h5 | h5)
        · exact h4 h5
        · rcases (hnew q h5).2 with ⟨h6, _⟩ | h6
          · exact h4 h6
          · omega
  · exact ⟨hE2.1.trans hE1.1, hE2.2.1.trans hE1.2.1, hE2.2.2.1.trans hE1.2.2.1, Nat.le_trans hz1 hz2, fun q hq hn => (hk2 q (by omega) fun hB => hn (h.bt q hB).1).trans (hE1.2.2.2.2 q hq hn)⟩

end Go.Proofs.Ytcebnoapgceodaa.sT
end

section
namespace Go.Proofs.Ytcebnoapgceodaa.sT
open Go.RowKit Go.Proofs.Ytcebnoapgceodaa.tC

set_option linter.unusedVariables false
attribute [local irreducible] wpStill

/-- the writes of a commit -/
def StM.write (M : StM) (seq : Int) (ws : List Wr) : StM := ws.foldl (fun M w => M.put1 w.key ⟨seq, w.val, w.gone⟩) M
theorem write_next (M : StM) (seq : Int) (ws : List Wr) {z : Nat} (hz : z < ws.length) : M.write seq (ws.take (z + 1)) = (M.write seq (ws.take z)).put1 (ws[z]).key ⟨seq, (ws[z]).val, (ws[z]).gone⟩ := by
  unfold StM.write
  rw [List.take_succ_eq_append_getElem hz, List.foldl_append]
  rfl

theorem wrs_ext {B : Nat → Prop} {W W' : World} {a : Option Addr} {ws : List Wr} (h : WrsIs W a ws) (hE : Ext B W W') (ha : ws = [] ∨ ∀ b off, a = some ⟨b, off, none⟩ → ¬ B b) : WrsIs W' a ws := by
  rcases ha with ha | ha
  · exact .inl ha
  refine h.imp id ?_
  rintro ⟨b, off, e, hlt, hv⟩
  have hs : W'.heap[b]? = W.heap[b]? := hE.2.2.2.2 b hlt (ha b off e)
  refine ⟨b, off, e, Nat.lt_of_lt_of_le hlt hE.2.2.2.1, fun i hi => ?_⟩
  obtain ⟨h0, h1, h2⟩ := hv i hi
  exact ⟨(World.cell?_of_block (a := ⟨b, _, none⟩) hs).trans h0, (World.cell?_of_block (a := ⟨b, _, none⟩) hs).trans h1, (World.cell?_of_block (a := ⟨b, _, none⟩) hs).trans h2⟩

theorem filters_len {α : Type} (f g : α → Bool) (hd : ∀ x, f x = true → g x = true → False) : ∀ l : List α, (l.filter f).length + (l.filter g).length ≤ l.length
  | [] => by simp
  | x :: r => by
    have ih := filters_len f g hd r
    cases hf : f x <;> cases hg : g x
    · simp [hf, hg]; omega
    · simp [hf, hg]; omega
    · simp [hf, hg]; omega
    · exact (hd x hf hg).elim
theorem putM_len (ks : List (ByteArray × List Ver)) (key : ByteArray) (vs : List Ver) : (putM ks key vs).length ≤ ks.length + 1 := by
  unfold putM
  rw [List.length_append, List.length_cons]
  have := filters_len (fun p : ByteArray × List Ver => decide (Lt p.1 key)) (fun p => decide (Lt key p.1)) (fun x h1 h2 => Lt.irrefl _ ((show Lt x.1 key by simpa using h1).trans (by simpa using h2))) ks
  omega
theorem Chs.len {B : Nat → Prop} {W : World} : ∀ {l : List KV} {ks : List (ByteArray × List Ver)}, Chs B W l ks → l.length = ks.length
  | [], [], _ => rfl
  | _ :: _, _ :: _, ⟨_, _, h⟩ => by rw [List.length_cons, List.length_cons, Chs.len h]
  | _ :: _, [], h => h.elim
  | [], _ :: _, h => h.elim

/-- room for k writes more -/
def Room (M : StM) (k : Nat) : Prop := M.keys.length + k < 50000 ∧ (∀ p ∈ M.keys, p.2.length + k ≤ 1000000) ∧ k ≤ 1000000
theorem Room.chain {M : StM} {k : Nat} (h : Room M k) (key : ByteArray) : (M.chain key).length + k ≤ 1000000 := by
  unfold StM.chain
  cases hl : lookK M.keys key with
  | none => simpa using h.2.2
  | some vs =>
    obtain ⟨p, hp, e⟩ := look_mem hl
    have := h.2.1 p hp
    rw [e] at this
    exact this
theorem Room.put1 {M : StM} {k : Nat} (h : Room M (k + 1)) (key : ByteArray) (x : Ver) : Room (M.put1 key x) k := by
  refine ⟨?_, fun p hp => ?_, by have := h.2.2; omega⟩
  · have h1 := putM_len M.keys key (M.chain key ++ [x])
    have h2 := h.1
    show (putM M.keys key (M.chain key ++ [x])).length + k < 50000
    omega
  · rcases List.mem_append.1 (show p ∈ putM M.keys key (M.chain key ++ [x]) from hp) with hp | hp
    · have := h.2.1 p (List.mem_filter.1 hp).1; omega
    · rcases List.mem_cons.1 hp with rfl | hp
      · have := h.chain key
        simp only [List.length_append, List.length_singleton]
        omega
      · have := h.2.1 p (List.mem_filter.1 hp).1; omega
theorem Room.write {M : StM} {seq : Int} {ws : List Wr} (h : Room M ws.length) : ∀ z, z ≤ ws.length → Room (M.write seq (ws.take z)) (ws.length - z)
  | 0, _ => by simpa [StM.write] using h
  | z + 1, hz => by
    rw [write_next M seq ws (by omega)]
    have := Room.write (seq := seq) h z (by omega)
    rw [show ws.length - z = ws.length - (z + 1) + 1 by omega] at this
    exact this.put1 _ _

theorem StoreAt.weaken {P P' : Nat → Prop} {W : World} {s : Nat} {M : StM} (h : StoreAt P W s M) (hP : ∀ q, P q → P' q) : StoreAt P' W s M := by
  obtain ⟨cv, wvs, ls, BT, BC, BM, h⟩ := h
  exact ⟨cv, wvs, ls, BT, BC, BM, h.keep (Nat.le_refl _) fun q hq _ _ => ⟨rfl, hP q hq⟩⟩

/-- behind z writes -/
def Wz (P : Nat → Prop) (W : World) (s : Nat) (M : StM) (W' : World) : Prop := StoreAt (Nu P W.heap.size) W' s M ∧ Ext P W W'
/-- what a round does, from the Get on -/
def Nx (P : Nat → Prop) (W : World) (s : Nat) (M' : StM) (key : ByteArray) (x : Ver) (n : Nat) (a : Option Addr) (c m : Nat) (w' : World) : Prop :=
  ∀ W3 p, Below w'.heap.size w' W3 → W3.heap[p]? = some (.cells (vcells x).toArray 187) → ∀ ty, ∃ a2 c2 W1, (Builtin.append_ #[108, 108] ty #[.slice a n c, .slice (some ⟨p, 0, none⟩) 1 1]).run Try.prog W3 = .ok (.slice a2 (n + 1) c2) W1 ∧ (∀ q, m ≤ q → q < W3.heap.size → W1.heap[q]? = W3.heap[q]?) ∧
    Hid (Calls Try.prog 120 #[.pointer (some ⟨s, 2, none⟩), .string key, .slice a2 (n + 1) c2] W1 fun e W2 => (∃ b, e = .returned (.bool b)) ∧ (∀ q, m ≤ q → q < W3.heap.size → W2.heap[q]? = W3.heap[q]?) ∧ Hid (Wz P W s M' W2))

theorem round_of {P : Nat → Prop} {W wr : World} {s : Nat} {M : StM} (h : Wz P W s M wr) {k : Nat} (hr : Room M (k + 1)) (key : ByteArray) (x : Ver) :
    ∀ W', Below wr.heap.size wr W' → Calls Try.prog 56 #[.pointer (some ⟨s, 2, none⟩), .string key] W' fun e w' => ∃ a c b, e = .returned (.tuple #[.slice a (M.chain key).length c, .bool b]) ∧ Hid (Below W'.heap.size W' w') ∧ Hid (Nx P W s (M.put1 key x) key x (M.chain key).length a c wr.heap.size w') := fun W' hb => by
  obtain ⟨⟨cv, wvs, ls, BT, BC, BM, hS0⟩, hE⟩ := h
  have hS : St (fun q => Nu P W.heap.size q ∧ q < wr.heap.size) wr s M cv wvs ls BT BC BM := hS0.keep (Nat.le_refl _) fun q hq hlt _ => ⟨rfl, hq, hlt⟩
  have hS' := hS.below hb
  obtain ⟨a, c, hv, _⟩ := hS'.chainOf key
  refine (get_any (hd := mkHd (.int .i64 M.low) cv) hS'.tree key).mono ?_
  rintro e w' ⟨rfl, hb2⟩
  refine ⟨a, c, _, by rw [← hv], Lib.hid hb2, Lib.hid fun W3 p hb3 hp ty => ?_⟩
  have hbb : Below wr.heap.size wr W3 := hb.trans ((hb2.mono hb.size).trans (hb3.mono (Nat.le_trans hb.size hb2.size)))
  have hS3 := hS.below hbb
  have hlen := hr.chain key
  have htot : total ls < 50000 := by
    have h1 := hS.ch.len
    have h2 := hr.1
    unfold total
    omega
  obtain ⟨a2, c2, W1, hrun, hk1, hput⟩ := put_step hS3 key x (by omega) htot hp ty hv
  refine ⟨a2, c2, W1, hrun, fun q h1 h2 => hk1 q h2 fun h3 => by have := h3.2; omega, Lib.hid (hput.mono ?_)⟩
  rintro e W2 ⟨he, hst, hE2⟩
  refine ⟨he, fun q h1 h2 => hE2.2.2.2.2 q h2 fun h3 => by have := h3.2; omega, Lib.hid ⟨hst.weaken fun q hq => ?_, hE.trans ((Ext.below hbb).trans (hE2.mono fun q hq => .inl hq.1))⟩⟩
  rcases hq with hq | hq
  · exact hq.1
  · exact .inr (Nat.le_trans hE.2.2.2.1 (Nat.le_trans hbb.size hq))

attribute [-go_sem] Builtin.append_
set_option maxHeartbeats 4000000 in
set_option maxRecDepth 100000 in
theorem write_any {P : Nat → Prop} {W : World} {s : Nat} {M : StM} (h : StoreAt P W s M) (seq : Int) {a : Option Addr} {len cap : Nat} {ws : List Wr} (hw : WrsIs W a ws) (hl : ws.length = len) (hle : len ≤ 1000000) (ha : ws = [] ∨ ∀ b off, a = some ⟨b, off, none⟩ → ¬ P b) (hr : Room M len) :
    Calls Try.prog 75 #[.pointer (some ⟨s, 0, none⟩), .int .i64 seq, .slice a len cap] W fun e W' => e = .returned (.tuple #[]) ∧ Wz P W s (M.write seq ws) W' := by
  subst hl
  have HI0 : Hid (Wz P W s (M.write seq (ws.take 0)) W) := Lib.hid ⟨h.weaken fun q hq => .inl hq, Ext.refl _ _⟩
  have HW := Lib.hid (And.intro hw ha)
  have HR := Lib.hid hr
  clear h hw ha hr
  go_enter Try.func75, Try.ntmps75
  go_wp2_with fail
  go_loopw [12] (fun iv wr => ∃ z : Nat, z ≤ ws.length ∧ iv = .int .i64 (z : Int) ∧ Hid (Wz P W s (M.write seq (ws.take z)) wr)) (fun iv _ => ws.length - (intOf iv).toNat)
  case atStart => exact ⟨0, Nat.zero_le _, rfl, HI0⟩
  case round =>
    obtain ⟨z, hz, rfl, hst⟩ := hrel
    clear HI0
    by_cases hzl : z < ws.length
    · have hzI : (z : Int) < (ws.length : Int) := by omega
      obtain ⟨b, off, rfl, hblt, ⟨k0, k1, k2⟩, _⟩ := (wrs_ext HW.out.1 hst.out.2 HW.out.2).at_ z hzl
      have hroom := HR.out.write (seq := seq) z hz
      rw [show ws.length - z = ws.length - (z + 1) + 1 by omega] at hroom
      have HN := Lib.hid (write_next M seq ws hzl)
      obtain ⟨x, hx⟩ : ∃ x, x = ws[z] := ⟨_, rfl⟩
      rw [← hx] at k0 k1 k2 HN
      obtain ⟨xk, xv, xg⟩ := x
      simp only at k0 k1 k2 HN
      obtain ⟨Mz, hMz⟩ : ∃ Mz, Mz = M.write seq (ws.take z) := ⟨_, rfl⟩
      rw [← hMz] at hst hroom HN
      have HSTEP := Lib.hid fun W' (hb : Below (wr.alloc (.cells #[.string xk, .string xv, .bool xg] 48)).heap.size (wr.alloc (.cells #[.string xk, .string xv, .bool xg] 48)) W') => round_of hst.out hroom xk ⟨seq, xv, xg⟩ W' ((((Below.refl _ wr).alloc (Nat.le_refl _) _)).trans (hb.mono (by simp)))
      obtain ⟨nl, hnl⟩ : ∃ nl, nl = (Mz.chain xk).length := ⟨_, rfl⟩
      rw [← hnl] at HSTEP
      have HG : Hid (Calls Try.prog 56 #[.pointer (some ⟨s, 2, none⟩), .string xk] (wr.alloc (.cells #[.string xk, .string xv, .bool xg] 48)).drew fun e w' => ∃ a c b, e = .returned (.tuple #[.slice a nl c, .bool b]) ∧ (w'.cell? ⟨wr.heap.size, 0, none⟩ = some (.string xk) ∧ w'.cell? ⟨wr.heap.size, 1, none⟩ = some (.string xv) ∧ w'.cell? ⟨wr.heap.size, 2, none⟩ = some (.bool xg)) ∧ wr.heap.size < w'.heap.size ∧ Hid (Nx P W s (M.write seq (ws.take (z + 1))) xk ⟨seq, xv, xg⟩ nl a c wr.heap.size w')) := Lib.hid (by
        refine (HSTEP.out _ (Below.refl _ _).drew).mono ?_
        rintro e w' ⟨a2, c2, b2, rfl, hb, hN⟩
        have hx : w'.heap[wr.heap.size]? = some (.cells #[.string xk, .string xv, .bool xg] 48 (0, 0)) := (hb.out.block wr.heap.size (by simp)).trans (heap_alloc_new wr _)
        refine ⟨a2, c2, b2, rfl, ⟨cell_of_row w' _ 0 _ _ (0, 0) hx, cell_of_row w' _ 1 _ _ (0, 0) hx, cell_of_row w' _ 2 _ _ (0, 0) hx⟩, (Array.getElem?_eq_some_iff.1 hx).1, Lib.hid ?_⟩
        rw [HN.out]
        exact hN.out)
      clear hx hMz hroom hnl hst HSTEP HN
      go_wp2_with fail
      go_region_with ((go_at_call 56; refine HG.out.mono ?_; rintro e w2 ⟨a2, c2, b2, rfl, ⟨y0, y1, y2⟩, ylt, hN⟩))
      obtain ⟨a3, c3, W3, hrun, hk3, hput⟩ := hN.out (w2.alloc (.cells #[.int .i64 seq, .string xv, .bool xg] 187)).drew w2.heap.size ((Below.refl _ w2).alloc (Nat.le_refl _) _).drew (heap_alloc_new w2 _) 108
      have hcS : ∀ W : World, W.heap[wr.heap.size]? = w2.heap[wr.heap.size]? → W.cell? ⟨wr.heap.size, 0, none⟩ = some (.string xk) ∧ W.cell? ⟨wr.heap.size, 1, none⟩ = some (.string xv) ∧ W.cell? ⟨wr.heap.size, 2, none⟩ = some (.bool xg) := fun W hW => ⟨(World.cell?_of_block (a := ⟨wr.heap.size, 0, none⟩) hW).trans y0, (World.cell?_of_block (a := ⟨wr.heap.size, 1, none⟩) hW).trans y1, (World.cell?_of_block (a := ⟨wr.heap.size, 2, none⟩) hW).trans y2⟩
      have hA0 : (w2.alloc (.cells #[.int .i64 seq, .string xv, .bool xg] 187)).drew.heap[wr.heap.size]? = w2.heap[wr.heap.size]? := Below.heap_alloc w2 _ wr.heap.size ylt
      have hS1 := hcS w2.drew rfl
      have hS2 := hcS (w2.alloc (.cells #[.int .i64 seq, .string xv, .bool xg] 187)).drew hA0
      have hS3 := hcS W3 ((hk3 _ (Nat.le_refl _) (by show wr.heap.size < (w2.alloc _).heap.size; simp; omega)).trans hA0)
      have HS4 := Lib.hid fun W4 (h4 : ∀ q, wr.heap.size ≤ q → q < (w2.alloc (.cells #[.int .i64 seq, .string xv, .bool xg] 187)).drew.heap.size → W4.heap[q]? = (w2.alloc (.cells #[.int .i64 seq, .string xv, .bool xg] 187)).drew.heap[q]?) => hcS W4 ((h4 _ (Nat.le_refl _) (by show wr.heap.size < (w2.alloc _).heap.size; simp; omega)).trans hA0)
      clear hN HG hcS hA0 hk3
      go_wp2_with fail
      go_region_held3 (fun w' => w'.cell? ⟨wr.heap.size, 0, none⟩ = some (.string xk) ∧ w'.cell? ⟨wr.heap.size, 1, none⟩ = some (.string xv) ∧ w'.cell? ⟨wr.heap.size, 2, none⟩ = some (.bool xg)) (first | with_reducible exact hS1 | with_reducible exact hS2 | with_reducible exact hS3 | with_reducible exact hS4 | go_keep)
        ((go_at_call 120; refine hput.out.mono ?_; rintro e w4 ⟨⟨b4, rfl⟩, h4, hW⟩; have hS4 := HS4.out w4 h4; clear h4))
      all_goals
        go_wp2_with fail
        go_roundw
        case rel => exact ⟨z + 1, by omega, by go_num, hW⟩
        case measure => simp [intOf]; omega
    · obtain rfl : z = ws.length := by omega
      have hzI : ¬ (ws.length : Int) < (ws.length : Int) := by omega
      have HF : Hid (Wz P W s (M.write seq ws) wr) := Lib.hid (by have := hst.out; rwa [List.take_length] at this)
      clear hst hzl hz
      go_wp2
      go_end0
      exact ⟨rfl, HF.out⟩

end Go.Proofs.Ytcebnoapgceodaa.sT
end

section
namespace Go.Proofs.Ytcebnoapgceodaa.sT
open Go.RowKit Go.Proofs.Ytcebnoapgceodaa.tC

set_option linter.unusedVariables false

theorem isGone_any (x : Wr) (w : World) : Calls Try.prog 74 #[.agg #[.string x.key, .string x.val, .bool x.gone]] w fun e w' => e = .returned (.bool x.gone) ∧ Below w.heap.size w w' := by
  obtain ⟨k, v, g⟩ := x
  go_enter Try.func74, Try.ntmps74
  go_wp2
  go_ret
  exact ⟨rfl, (Below.refl _ _).alloc (Nat.le_refl _) _⟩

def goneI (ws : List Wr) (e : Ending) : Prop := ∃ r : Int, e = .returned (.int .i64 r) ∧ decide (0 ≤ r) = ws.any Wr.gone

set_option maxHeartbeats 1000000 in
theorem index_any {W : World} {a : Option Addr} {len cap : Nat} {ws : List Wr} (h : WrsIs W a ws) (hl : ws.length = len) (hle : len ≤ 1000000) :
    Calls Try.prog 119 #[.slice a len cap, .func (.func 74) #[] #[]] W fun e w' => goneI ws e ∧ Below W.heap.size W w' := by
  subst hl
  have HW := Lib.hid h
  clear h
  go_enter Try.func119, Try.ntmps119
  go_wp2_with fail
  go_loopw [8] (fun iv wr => ∃ z : Nat, z ≤ ws.length ∧ iv = .int .i64 (z : Int) ∧ Hid (Below W.heap.size W wr ∧ ∀ i (h : i < ws.length), i < z → (ws[i]).gone = false)) (fun iv _ => ws.length - (intOf iv).toNat)
  case atStart => exact ⟨0, Nat.zero_le _, rfl, Lib.hid ⟨Below.refl _ _, fun i _ h => by omega⟩⟩
  case round =>
    obtain ⟨z, hz, rfl, hst⟩ := hrel
    by_cases hzl : z < ws.length
    · have hzI : (z : Int) < (ws.length : Int) := by omega
      obtain ⟨b, off, rfl, hblt, ⟨k0, k1, k2⟩, _⟩ := (HW.out.below hst.out.1).at_ z hzl
      have HN := Lib.hid hst.out
      obtain ⟨x, hx⟩ : ∃ x, x = ws[z] := ⟨_, rfl⟩
      rw [← hx] at k0 k1 k2
      have hi := isGone_any x wr
      have HX := Lib.hid hx
      obtain ⟨xk, xv, xg⟩ := x
      simp only at k0 k1 k2 hi
      clear hx hst
      go_wp2_with fail
      refine hi.mono ?_
      rintro e w2 ⟨rfl, hb⟩
      have HB := Lib.hid (HN.out.1.trans (hb.mono HN.out.1.size))
      clear hb hi
      cases xg
      · have HR : Hid (∀ i (h : i < ws.length), i < z + 1 → (ws[i]).gone = false) := Lib.hid fun i h hi => by
          by_cases e : i = z
          · subst e; rw [← HX.out]
          · exact HN.out.2 i h (by omega)
        go_wp2_with fail
        go_roundw
        case rel => exact ⟨z + 1, by omega, by go_num, Lib.hid ⟨HB.out, HR.out⟩⟩
        case measure => simp [intOf]; omega
      · have HF : Hid (goneI ws (.returned (.int .i64 (z : Int)))) := Lib.hid ⟨z, rfl, by
          have : ws.any Wr.gone = true := List.any_eq_true.2 ⟨ws[z], List.getElem_mem hzl, by rw [← HX.out]⟩
          rw [this]; simp⟩
        go_wp2
        go_ret
        exact ⟨HF.out, HB.out⟩
    · obtain rfl : z = ws.length := by omega
      have hzI : ¬ (ws.length : Int) < (ws.length : Int) := by omega
      have HF : Hid (goneI ws (.returned (.int .i64 (-1)))) := Lib.hid ⟨-1, rfl, by
        have : ws.any Wr.gone = false := by
          rw [List.any_eq_false]
          intro x hx
          obtain ⟨i, hi, rfl⟩ := List.getElem_of_mem hx
          rw [hst.out.2 i hi hi]
          simp
        rw [this]; rfl⟩
      have HB := Lib.hid hst.out.1
      clear hst hzl hz
      go_wp2
      go_ret
      exact ⟨HF.out, HB.out⟩

theorem contains_any {W : World} {a : Option Addr} {len cap : Nat} {ws : List Wr} (h : WrsIs W a ws) (hl : ws.length = len) (hle : len ≤ 1000000) :
    Calls Try.prog 73 #[.slice a len cap, .func (.func 74) #[] #[]] W fun e w' => e = .returned (.bool (ws.any Wr.gone)) ∧ Below W.heap.size W w' := by
  have HI := Lib.hid (index_any (cap := cap) h hl hle)
  clear h hl
  go_enter Try.func73, Try.ntmps73
  go_wp2_with fail
  refine HI.out.mono ?_
  rintro e w2 ⟨⟨r, rfl, hr⟩, hb⟩
  have HB := Lib.hid hb
  have HR := Lib.hid hr
  clear hb hr HI
  go_wp2
  go_ret
  exact ⟨by rw [← HR.out]; rfl, HB.out⟩

/-- which bases are right -/
def newOK (seq : Int) (ws : List Wr) : Bool := decide (0 ≤ seq) && decide (seq ≤ 1099511627776) && rightW ws ws.length && !ws.any Wr.gone
/-- a store with nothing -/
def StM.new (seq : Nat) : StM := ⟨seq, [], []⟩

/-- the store's block, new -/
theorem new_at {P : Nat → Prop} (W : World) (seq : Nat) (hs : seq ≤ 1099511627776) (hP : P W.heap.size) : StoreAt P (W.alloc (.cells #[.int .i64 seq, .slice none 0 0, .slice none 0 0, .int .i64 0] 105)) W.heap.size (StM.new seq) := by
  have hb := Box.new W 105 #[.int .i64 seq, .slice none 0 0, .slice none 0 0, .int .i64 0]
  refine ⟨.slice none 0 0, [], [], fun q => q = W.heap.size, fun _ => False, fun _ => False, { tree := ?_, ch := trivial, ap := List.Pairwise.nil, cm := RowO.nil _ _ _ _, cb := fun b hb => (by cases hb), ws := trivial, bt := ?_, bc := fun q hq => hq.elim, bm := fun q hq => hq.elim, sz := ?_ }⟩
  · refine ⟨rfl, ⟨fun l hl => by simp at hl, by simp [keysOf, RiseB]⟩, by simp [total], .slice none 0 0, [], rfl, hb, ⟨World.ownsRow_nil _ _ _ 1, fun u hu => (by simp at hu)⟩, fun q hq => (by cases hq), trivial, List.Pairwise.nil⟩
  · rintro q rfl
    exact ⟨hP, by simp⟩
  · show seq + 0 ≤ _
    omega

theorem ext_below {P : Nat → Prop} {n : Nat} {W W' : World} (h : Ext P W W') (hP : ∀ q, P q → n ≤ q) (hn : n ≤ W.heap.size) : Below n W W' := ⟨h.1, h.2.1, h.2.2.1, h.2.2.2.1, fun q hq => h.2.2.2.2 q (by omega) fun h2 => by have := hP q h2; omega⟩

/-- what New answers -/
def NewP (W : World) (seq : Int) (ws : List Wr) (e : Ending) (W' : World) : Prop := Below W.heap.size W W' ∧
  ((newOK seq ws = false ∧ e = .returned (.tuple #[.pointer none, .int .i64 1])) ∨ (newOK seq ws = true ∧ ∃ (s lo : Nat), (lo : Int) = seq ∧ lo ≤ 1099511627776 ∧ e = .returned (.tuple #[.pointer (some ⟨s, 0, none⟩), .int .i64 0]) ∧ StoreAt (W.heap.size ≤ ·) W' s ((StM.new lo).write seq ws)))

set_option maxHeartbeats 2000000 in
theorem new_any {W : World} (seq : Int) {a : Option Addr} {len cap : Nat} {ws : List Wr} (h : WrsIs W a ws) (hl : ws.length = len) (hle : len ≤ 40000) :
    Calls Try.prog 33 #[.int .i64 seq, .slice a len cap] W (NewP W seq ws) := by
  have hA := Lib.hid (areRight_any (cap := cap) h hl (by omega))
  have HC := Lib.hid fun W' (hb : Below W.heap.size W W') => contains_any (cap := cap) (h.below hb) hl (by omega)
  have HN : Hid (newOK seq ws = (decide (0 ≤ seq) && decide (seq ≤ 1099511627776) && rightW ws len && !ws.any Wr.gone)) := Lib.hid (by unfold newOK; rw [hl])
  have HNO : Hid (newOK seq ws = false → ∀ W', Below W.heap.size W W' → NewP W seq ws (.returned (.tuple #[.pointer none, .int .i64 1])) W') := Lib.hid fun h1 W' hb => ⟨hb, .inl ⟨h1, rfl⟩⟩
  have HWR : Hid (newOK seq ws = true → ∀ (w3 : World) (lo : Nat), (lo : Int) = seq → lo ≤ 1099511627776 → Below W.heap.size W w3 → Calls Try.prog 75 #[.pointer (some ⟨w3.heap.size, 0, none⟩), .int .i64 seq, .slice a len cap] (w3.alloc (.cells #[.int .i64 (lo : Int), .slice none 0 0, .slice none 0 0, .int .i64 0] 105)) fun e W' => e = .returned (.tuple #[]) ∧ Hid (NewP W seq ws (.returned (.tuple #[.pointer (some ⟨w3.heap.size, 0, none⟩), .int .i64 0])) W')) := Lib.hid fun h1 w3 lo hlo hlo2 hb => by
    have hz := hb.size
    have hb3 : Below W.heap.size W (w3.alloc (.cells #[.int .i64 (lo : Int), .slice none 0 0, .slice none 0 0, .int .i64 0] 105)) := hb.alloc hz _
    have hst := new_at (P := fun q => w3.heap.size ≤ q) w3 lo hlo2 (Nat.le_refl _)
    have ha : ws = [] ∨ ∀ b off, a = some ⟨b, off, none⟩ → ¬ w3.heap.size ≤ b := by
      rcases h with h | ⟨b2, off2, e2, hlt, _⟩
      · exact .inl h
      · refine .inr fun b off e => ?_
        rw [e] at e2
        injection e2 with e2
        injection e2 with e2
        omega
    refine (write_any hst seq (a := a) (cap := cap) (h.below hb3) hl (by omega) ha ?_).mono ?_
    · exact ⟨by show 0 + len < 50000; omega, fun p hp => by simp [StM.new] at hp, by omega⟩
    · rintro e W' ⟨rfl, hs, hE⟩
      have hb4 := ext_below (n := W.heap.size) hE (fun q hq => by omega) hb3.size
      refine ⟨rfl, Lib.hid ⟨hb3.trans hb4, .inr ⟨h1, w3.heap.size, lo, hlo, hlo2, rfl, hs.weaken fun q hq => ?_⟩⟩⟩
      rcases hq with hq | hq
      · exact Nat.le_trans hz hq
      · exact Nat.le_trans hb3.size hq
  clear h
  by_cases h1 : seq < 0
  · have HF : Hid (newOK seq ws = false) := Lib.hid (by rw [HN.out]; simp; omega)
    have HX := Lib.hid (HNO.out HF.out)
    obtain ⟨P, hP⟩ : ∃ P, P = NewP W seq ws := ⟨_, rfl⟩
    rw [← hP] at HX ⊢
    clear hP
    go_enter Try.func33, Try.ntmps33
    go_wp2
    exact (HX.out _ (Below.refl _ _))
  have h1I : (0 : Int) ≤ seq := by omega
  by_cases h2 : (1099511627776 : Int) < seq
  · have HF : Hid (newOK seq ws = false) := Lib.hid (by rw [HN.out]; simp; omega)
    have HX := Lib.hid (HNO.out HF.out)
    obtain ⟨P, hP⟩ : ∃ P, P = NewP W seq ws := ⟨_, rfl⟩
    rw [← hP] at HX ⊢
    clear hP
    go_enter Try.func33, Try.ntmps33
    go_wp2
    exact (HX.out _ (Below.refl _ _))
  have h2I : seq ≤ 1099511627776 := by omega
  obtain ⟨r, hr⟩ : ∃ r, r = rightW ws len := ⟨_, rfl⟩
  obtain ⟨g, hg⟩ : ∃ g, g = ws.any Wr.gone := ⟨_, rfl⟩
  rw [← hr] at hA HN
  rw [← hg] at HC HN
  have HN2 : Hid (newOK seq ws = (r && !g)) := Lib.hid (by rw [HN.out]; simp [h1I, h2I])
  obtain ⟨lo, rfl⟩ : ∃ lo : Nat, seq = (lo : Int) := ⟨seq.toNat, by omega⟩
  have hlo : lo ≤ 1099511627776 := by omega
  clear hr hg HN
  obtain ⟨P, hP⟩ : ∃ P, P = NewP W (lo : Int) ws := ⟨_, rfl⟩
  rw [← hP] at HNO HWR ⊢
  clear hP
  cases r
  · have HX := Lib.hid (HNO.out (by rw [HN2.out]; rfl))
    clear HNO HWR HN2
    go_enter Try.func33, Try.ntmps33
    go_wp2_with fail
    refine hA.out.mono ?_
    rintro e w2 ⟨rfl, hb⟩
    have HB := Lib.hid hb
    clear hb hA
    go_wp2
    exact (HX.out _ HB.out)
  · cases g
    · have HX := Lib.hid (HWR.out (by rw [HN2.out]; rfl))
      clear HNO HWR HN2
      go_enter Try.func33, Try.ntmps33
      go_wp2_with fail
      refine hA.out.mono ?_
      rintro e w2 ⟨rfl, hb⟩
      have HB := Lib.hid hb
      clear hb hA
      go_wp2_with fail
      refine (HC.out w2 HB.out).mono ?_
      rintro e w3 ⟨rfl, hb⟩
      have HB3 := Lib.hid (HB.out.trans (hb.mono HB.out.size))
      have HX3 := Lib.hid (HX.out w3 lo rfl hlo HB3.out)
      clear hb HX
      go_wp2_with fail
      refine HX3.out.mono ?_
      rintro e w4 ⟨rfl, hF⟩
      go_wp2
      exact hF.out
    · have HX := Lib.hid (HNO.out (by rw [HN2.out]; rfl))
      clear HNO HWR HN2
      go_enter Try.func33, Try.ntmps33
      go_wp2_with fail
      refine hA.out.mono ?_
      rintro e w2 ⟨rfl, hb⟩
      have HB := Lib.hid hb
      clear hb hA
      go_wp2_with fail
      refine (HC.out w2 HB.out).mono ?_
      rintro e w3 ⟨rfl, hb⟩
      have HB3 := Lib.hid (HB.out.trans (hb.mono HB.out.size))
      clear hb
      go_wp2
      exact (HX.out _ HB3.out)

end Go.Proofs.Ytcebnoapgceodaa.sT
end
