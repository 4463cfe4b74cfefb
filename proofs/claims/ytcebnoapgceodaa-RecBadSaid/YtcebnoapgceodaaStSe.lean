/-
  store: seen: the first keys from one on, ahead of another one, that have values behind a commit.
-/
import Derived.Test.YtcebnoapgceodaaStSi
import Derived.Test.YtcebnoapgceodaaTRngC
namespace Go.Proofs.Ytcebnoapgceodaa.sT
open Go.RowKit Go.Proofs.Ytcebnoapgceodaa.tC Go.Proofs.Ytcebnoapgceodaa.rgR

set_option linter.unusedVariables false
set_option linter.unusedSimpArgs false
attribute [local go_sem] Oper.semAt_some

theorem rangeC_any (pt : Option Addr) (key to : ByteArray) (w : World) :
    Calls Try.prog 107 #[.pointer pt, .string key, .string to] w fun e w' => e = .returned (.func (.func 143) #[] #[.pointer (some ⟨w.heap.size, 0, none⟩), .pointer (some ⟨w.heap.size + 1, 0, none⟩), .pointer (some ⟨w.heap.size + 2, 0, none⟩)]) ∧
      w' = ((w.alloc (.cells #[.pointer pt] 110)).alloc (.cells #[.string key] 9)).alloc (.cells #[.string to] 9) := by
  go_enter Try.func107, Try.ntmps107
  go_wp2
  go_ret
  exact ⟨rfl, rfl⟩

/-- what a key has behind a commit, as a write -/
def valM (seq : Int) (p : ByteArray × List Ver) : Option Wr := if (atR p.2 (upN p.2 seq)).2 then some ⟨p.1, (atR p.2 (upN p.2 seq)).1, false⟩ else none
/-- the keys from one on, ahead of another one -/
def inM (to : ByteArray) (p : ByteArray × List Ver) : Bool := to.toList == ([] : List UInt8) || Op.bytesLess p.1.toList to.toList
def rangeM (ks : KL) (key to : ByteArray) : KL := (ks.filter fun p => !decide (Lt p.1 key)).takeWhile (inM to)
def StM.seen (M : StM) (key to : ByteArray) (seq : Int) : List Wr := (rangeM M.keys key to).filterMap (valM seq)

theorem Chs.takeWhile {B : Nat → Prop} {W : World} (f : ByteArray → Bool) : ∀ {l : List KV} {ks : KL}, Chs B W l ks → Chs B W (l.takeWhile fun p => f p.1) (ks.takeWhile fun p => f p.1)
  | [], [], _ => trivial
  | p :: r, k :: q, ⟨h1, h2, h3⟩ => by
    rw [List.takeWhile_cons, List.takeWhile_cons, ← h1]
    cases f p.1 with
    | true => exact ⟨h1, h2, Chs.takeWhile f h3⟩
    | false => trivial
  | _ :: _, [], h => h.elim
  | [], _ :: _, h => h.elim
theorem Chs.range {B : Nat → Prop} {W : World} {l : List KV} {ks : KL} (h : Chs B W l ks) (key to : ByteArray) : Chs B W (rangeK l key to) (rangeM ks key to) := by
  have h1 := h.filter fun k => !decide (Lt k key)
  have h2 := h1.takeWhile fun k => to.toList == ([] : List UInt8) || Op.bytesLess k.toList to.toList
  exact h2
theorem Chs.mem {B : Nat → Prop} {W : World} : ∀ {l : List KV} {ks : KL}, Chs B W l ks → ∀ p ∈ l, ∃ vs, (p.1, vs) ∈ ks ∧ RowK 187 3 0 W p.2 vs.length (vrow vs)
  | [], [], _, p, hp => by simp at hp
  | a :: r, k :: q, ⟨h1, h2, h3⟩, p, hp => by
    rcases List.mem_cons.1 hp with rfl | hp
    · exact ⟨k.2, by rw [h1]; exact List.mem_cons_self, h2.1⟩
    · obtain ⟨vs, k1, k2⟩ := Chs.mem h3 p hp
      exact ⟨vs, List.mem_cons_of_mem _ k1, k2⟩
  | _ :: _, [], h, _, _ => h.elim
  | [], _ :: _, h, _, _ => h.elim
/-- the values in memory, as plain versions -/
def verK (ks : KL) (seq : Int) (p : KV) : Option Wr := ((lookK ks p.1).map fun vs => (p.1, vs)).bind (valM seq)
theorem look_in {ks : KL} (hr : RiseM ks) {k : ByteArray} {vs : List Ver} (h : (k, vs) ∈ ks) : lookK ks k = some vs := by
  obtain ⟨A, C, rfl⟩ := List.append_of_mem h
  obtain ⟨_, h2, h3⟩ := List.pairwise_append.1 hr
  exact look_mid fun p hp => h3 p hp (k, vs) List.mem_cons_self
theorem seen_kv {B : Nat → Prop} {W : World} {ks : KL} (hr : RiseM ks) (seq : Int) : ∀ {l : List KV} {qs : KL}, Chs B W l qs → (∀ q ∈ qs, q ∈ ks) → l.filterMap (verK ks seq) = qs.filterMap (valM seq)
  | [], [], _, _ => rfl
  | p :: r, k :: q, ⟨h1, _, h3⟩, hs => by
    have ih := seen_kv hr seq h3 fun x hx => hs x (List.mem_cons_of_mem _ hx)
    have e : verK ks seq p = valM seq k := by
      unfold verK
      rw [h1, look_in hr (show (k.1, k.2) ∈ ks from hs k List.mem_cons_self)]
      rfl
    rw [List.filterMap_cons, List.filterMap_cons, e, ih]
  | _ :: _, [], h, _ => h.elim
  | [], _ :: _, h, _ => h.elim

end Go.Proofs.Ytcebnoapgceodaa.sT
