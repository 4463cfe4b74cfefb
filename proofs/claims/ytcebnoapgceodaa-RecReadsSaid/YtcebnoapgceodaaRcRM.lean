/-
  octet's Reader by its state, plainly and in memory: what is left, or none behind an error. For every package that reads by it.
  rec.State.Encode: the contract.
  rec, plainly: what bytes are read as: writes, a commit, commits; and back.
  rec: writes read: the contract.
  rec: a commit read: the contract.
  rec: commits read: the contract.
  rec: bytes as a commit, and as a state: the contracts.
  rec.Decode: the contract.
  RecReads: bytes that are a commit, or a state, are its bytes.
  Proved: for every input that the row speaks of, the law RecReads returns true, and each argument reads behind the call as it read before (bytes that are a commit, or a state, are its bytes; and others tell so).
  Conditions: none but the row's own.
-/
import Derived.Test.YtcebnoapgceodaaRead3
import Derived.Test.YtcebnoapgceodaaRound
import Derived.Test.YtcebnoapgceodaaRcLS
import Derived.Test.YtcebnoapgceodaaRows
import Derived.WalkKit
import Derived.ProofKit
import Derived.OpenShut
import Derived.ShutString
import Derived.ChangeOld
import Derived.Below
section
namespace Go.Proofs.Ytcebnoapgceodaa.rdS
open Go.RowKit

abbrev L := List UInt8
abbrev St := Option L

def numS (st : St) (M : Nat) : Nat × St := match st with
  | none => (0, none)
  | some l => match numRead l M with
    | none => (0, none)
    | some (n, r) => (n, some r)
def textS (st : St) (M : Nat) : L × St := match st with
  | none => ([], none)
  | some l => match textRead l M with
    | none => ([], none)
    | some (t, r) => (t, some r)
def flagS (st : St) : Bool × St := match st with
  | none => (false, none)
  | some l => match flagRead l with
    | none => (false, none)
    | some (t, r) => (t, some r)
/-- End's answer -/
def endS (st : St) : Int := match st with
  | some [] => 0
  | _ => 2

theorem lay_arr (t : L) : (⟨t.toArray⟩ : ByteArray).size = t.length := rfl
theorem numS_le (st : St) (M : Nat) : (numS st M).1 ≤ M := by
  cases st with
  | none => exact Nat.zero_le _
  | some l =>
    unfold numS
    simp only
    cases hn : numRead l M with
    | none => exact Nat.zero_le _
    | some q => exact (numRead_len (n := q.1) (r := q.2) hn).2
theorem numS_laid {m M : Nat} (h : m ≤ M) (hm : m < 2 ^ 64) (x : L) : numS (some (octN m ++ x)) M = (m, some x) := by
  unfold numS
  simp only
  rw [numRead_laid _ _ _ hm, if_pos h]
theorem textS_laid {s : ByteArray} {M : Nat} (h : s.size ≤ M) (hs : s.size < 2 ^ 64) (x : L) : textS (some (octT s ++ x)) M = (s.data.toList, some x) := by
  unfold textS
  simp only
  rw [textRead_laid _ _ _ hs, if_pos h]
theorem flagS_laid (y : Bool) (x : L) : flagS (some (octF y ++ x)) = (y, some x) := by
  unfold flagS
  simp only
  rw [flagRead_laid]

/-- what was read stands there, ahead of what is left -/
theorem numS_back {st : St} {M n : Nat} {r : L} (h : numS st M = (n, some r)) : st = some (octN n ++ r) ∧ n < 2 ^ 64 ∧ n ≤ M := by
  cases st with
  | none => cases h
  | some l =>
    unfold numS at h
    simp only at h
    cases hr : numRead l M with
    | none => rw [hr] at h; simp at h
    | some p =>
      obtain ⟨n', r'⟩ := p
      rw [hr] at h
      simp only [Prod.mk.injEq, Option.some.injEq] at h
      obtain ⟨rfl, rfl⟩ := h
      obtain ⟨hl, hb⟩ := numRead_back hr
      exact ⟨by rw [hl], hb, (numRead_len hr).2⟩
theorem textS_back {st : St} {M : Nat} {t r : L} (h : textS st M = (t, some r)) : st = some (octT ⟨t.toArray⟩ ++ r) ∧ t.length ≤ M := by
  cases st with
  | none => cases h
  | some l =>
    unfold textS at h
    simp only at h
    cases hr : textRead l M with
    | none => rw [hr] at h; simp at h
    | some p =>
      obtain ⟨t', r'⟩ := p
      rw [hr] at h
      simp only [Prod.mk.injEq, Option.some.injEq] at h
      obtain ⟨rfl, rfl⟩ := h
      obtain ⟨hl, ht⟩ := textRead_back hr
      refine ⟨?_, ht⟩
      rw [hl]
      unfold octT
      rw [lay_arr]
theorem flagS_back {st : St} {y : Bool} {r : L} (h : flagS st = (y, some r)) : st = some (octF y ++ r) := by
  cases st with
  | none => cases h
  | some l =>
    unfold flagS at h
    simp only at h
    cases hr : flagRead l with
    | none => rw [hr] at h; simp at h
    | some p =>
      obtain ⟨t', r'⟩ := p
      rw [hr] at h
      simp only [Prod.mk.injEq, Option.some.injEq] at h
      obtain ⟨rfl, rfl⟩ := h
      rw [flagRead_back hr]

def stLen (st : St) : Prop := ∀ l, st = some l → l.length ≤ 281474976710656
theorem numS_len {st : St} {M : Nat} (h : stLen st) : stLen (numS st M).2 := by
  intro r hr
  cases hq : numS st M with
  | mk n s =>
    rw [hq] at hr
    simp only at hr
    subst hr
    have h1 := (numS_back hq).1
    have := h _ h1
    rw [List.length_append] at this
    omega
theorem textS_len {st : St} {M : Nat} (h : stLen st) : stLen (textS st M).2 := by
  intro r hr
  cases hq : textS st M with
  | mk n s =>
    rw [hq] at hr
    simp only at hr
    subst hr
    have h1 := (textS_back hq).1
    have := h _ h1
    rw [List.length_append] at this
    omega
theorem flagS_len {st : St} (h : stLen st) : stLen (flagS st).2 := by
  intro r hr
  cases hq : flagS st with
  | mk n s =>
    rw [hq] at hr
    simp only at hr
    subst hr
    have h1 := flagS_back hq
    have := h _ h1
    rw [List.length_append] at this
    omega
theorem textS_short (st : St) (M : Nat) : (textS st M).1.length ≤ M := by
  cases st with
  | none => exact Nat.zero_le _
  | some l =>
    unfold textS
    simp only
    cases hn : textRead l M with
    | none => exact Nat.zero_le _
    | some q => exact (textRead_back (t := q.1) (r := q.2) hn).2

def RS (w : World) (b : Nat) : St → Prop
  | some l => Rd w b ⟨l.toArray⟩ false
  | none => Rd w b ⟨#[]⟩ true

/-- from w to w': the reader goes to a state, and but for new blocks nothing else turns -/
def GS (w : World) (b : Nat) (st : St) (w' : World) : Prop := RS w' b st ∧ w.grownBy w' (some b)

theorem RS.lt {w : World} {b : Nat} {st : St} (h : RS w b st) : b < w.heap.size := by
  cases st with
  | some l => exact Rd.lt h
  | none => exact Rd.lt h
theorem RS.keep {w w' : World} {b : Nat} {st : St} (h : RS w b st) (hb : w'.heap[b]? = w.heap[b]?) : RS w' b st := by
  cases st with
  | some l => exact hb.trans h
  | none => exact hb.trans h
theorem GS.refl {w : World} {b : Nat} {st : St} (h : RS w b st) : GS w b st w := ⟨h, World.grownBy.refl w _⟩
theorem GS.trans {w w1 w2 : World} {b : Nat} {st st' : St} (h : GS w b st w1) (k : GS w1 b st' w2) : GS w b st' w2 := ⟨k.1, grown_trans h.2 k.2 (.inl rfl)⟩
theorem GS.below {w w1 w2 : World} {b : Nat} {st : St} (h : GS w b st w1) (k : Below w1.heap.size w1 w2) : GS w b st w2 :=
  ⟨h.1.keep (k.block b h.1.lt), ⟨k.os.trans h.2.os, k.tape.trans h.2.tape, k.output.trans h.2.output, Nat.le_trans h.2.size k.size, fun j hj hne => (k.block j (Nat.lt_of_lt_of_le hj h.2.size)).trans (h.2.block j hj hne)⟩⟩
theorem GS.frame {w w' : World} {b B : Nat} {st : St} (h : GS w b st w') (hB : B ≤ w.heap.size) (hb : B ≤ b) : Below B w w' :=
  (Below.refl B w).grown h.2 hB fun k hk => by simp at hk; omega
/-- what stands elsewhere -/
theorem GS.other {w w' : World} {b g : Nat} {st : St} (h : GS w b st w') (hg : g < w.heap.size) (hne : g ≠ b) : w'.heap[g]? = w.heap[g]? :=
  h.2.block g hg (fun e => hne (Option.some.inj e))

theorem num_s (b : Nat) (st : St) (most : Int) (M : Nat) (hm : most = (M : Int)) (hM : M ≤ 9223372036854775807) (w : World) (h : RS w b st) :
    Calls Try.prog 68 #[.pointer (some ⟨b, 0, none⟩), .int .i64 most] w fun e w' => e = .returned (.int .i64 ((numS st M).1 : Int)) ∧ GS w b (numS st M).2 w' := by
  subst hm
  cases st with
  | none =>
    refine (num_fail b _ w h).mono ?_
    rintro e w' ⟨rfl, hg⟩
    exact ⟨rfl, hg.1, hg.2⟩
  | some l =>
    refine (num_read b false l (M : Int) (by omega) w h).mono ?_
    rw [Int.toNat_natCast]
    rintro e w' (⟨ho, rfl, hg⟩ | ⟨n, r, ho, rfl, hg⟩)
    · unfold numS
      simp only
      rw [ho]
      exact ⟨rfl, hg.1, hg.2⟩
    · unfold numS
      simp only
      rw [ho]
      exact ⟨rfl, hg.1, hg.2⟩

theorem text_s (b : Nat) (st : St) (hl : stLen st) (most : Int) (M : Nat) (hm : most = (M : Int)) (hM : M ≤ 9223372036854775807) (w : World) (h : RS w b st) :
    Calls Try.prog 116 #[.pointer (some ⟨b, 0, none⟩), .int .i64 most] w fun e w' => e = .returned (.string ⟨(textS st M).1.toArray⟩) ∧ GS w b (textS st M).2 w' := by
  subst hm
  cases st with
  | none =>
    refine (text_fail b _ w h).mono ?_
    rintro e w' ⟨rfl, hg⟩
    exact ⟨rfl, hg.1, hg.2⟩
  | some l =>
    refine (text_read b false l (hl l rfl) (M : Int) (by omega) w h).mono ?_
    rw [Int.toNat_natCast]
    rintro e w' (⟨ho, rfl, hg⟩ | ⟨t, r, ho, rfl, hg⟩)
    · unfold textS
      simp only
      rw [ho]
      exact ⟨rfl, hg.1, hg.2⟩
    · unfold textS
      simp only
      rw [ho]
      exact ⟨rfl, hg.1, hg.2⟩

theorem flag_s (b : Nat) (st : St) (w : World) (h : RS w b st) :
    Calls Try.prog 117 #[.pointer (some ⟨b, 0, none⟩)] w fun e w' => e = .returned (.bool (flagS st).1) ∧ GS w b (flagS st).2 w' := by
  cases st with
  | none =>
    refine (flag_fail b w h).mono ?_
    rintro e w' ⟨rfl, hg⟩
    exact ⟨rfl, hg.1, hg.2⟩
  | some l =>
    refine (flag_read b false l w h).mono ?_
    rintro e w' (⟨ho, rfl, hg⟩ | ⟨t, r, ho, rfl, hg⟩)
    · unfold flagS
      simp only
      rw [ho]
      exact ⟨rfl, hg.1, hg.2⟩
    · unfold flagS
      simp only
      rw [ho]
      exact ⟨rfl, hg.1, hg.2⟩

theorem end_s (b : Nat) (st : St) (w : World) (h : RS w b st) :
    Calls Try.prog 66 #[.pointer (some ⟨b, 0, none⟩)] w fun e w' => e = .returned (.int .i64 (endS st)) ∧ w = w' := by
  match st, h with
  | none, h => exact end_bad b _ w h
  | some [], h => exact end_done b w h
  | some (c :: r), h => exact end_left b c r false w h

end Go.Proofs.Ytcebnoapgceodaa.rdS
end

section
namespace Go.Proofs.Ytcebnoapgceodaa.sT
open Go.RowKit

set_option linter.unusedVariables false
set_option linter.unusedSimpArgs false

def octCm (c : CmM) : List UInt8 := octC c.seq.toNat c.at_.toNat c.ws
/-- a state's bytes -/
def octSt (s : Nat) (ws : List Wr) (cs : List CmM) : List UInt8 := octN s ++ (octWs ws ++ (octN cs.length ++ cs.flatMap octCm))

theorem takes_ws {lo : Nat} {ws : List Wr} {cs : List CmM} (h : Takes lo ws cs) : lo ≤ 1099511627776 ∧ ∀ x ∈ ws, x.key.size ≤ 5000 ∧ x.val.size ≤ 5000 := by
  obtain ⟨h1, _⟩ := (takes_iff lo ws cs).1 h
  obtain ⟨_, k2, k3, _⟩ := new_parts h1
  refine ⟨by omega, fun x hx => ?_⟩
  obtain ⟨i, hi, rfl⟩ := List.getElem_of_mem hx
  have := isR_size (isR_of hi (rightW_get k3 hi))
  omega
theorem takes_cm {lo : Nat} {ws : List Wr} {cs : List CmM} (h : Takes lo ws cs) (k : Nat) (hk : k < cs.length) : ∃ m n : Nat, (cs[k]).seq = (m : Int) ∧ (cs[k]).at_ = (n : Int) ∧ m ≤ 1099511627776 ∧ n ≤ 1099511627776 ∧ (cs[k]).ws.length ≤ 200 ∧ ∀ x ∈ (cs[k]).ws, x.key.size ≤ 5000 ∧ x.val.size ≤ 5000 := by
  obtain ⟨_, h2⟩ := (takes_iff lo ws cs).1 h
  obtain ⟨k1, k2, k3, k4, k5, _⟩ := h2 k hk
  unfold rightL at k5
  simp only [Bool.and_eq_true, decide_eq_true_eq] at k5
  refine ⟨(cs[k]).seq.toNat, (cs[k]).at_.toNat, by omega, by omega, by omega, by omega, k5.1, fun x hx => ?_⟩
  obtain ⟨i, hi, rfl⟩ := List.getElem_of_mem hx
  have := isR_size (isR_of hi (rightW_get k5.2 hi))
  omega
theorem octCm_len {c : CmM} {m n : Nat} (e1 : c.seq = (m : Int)) (e2 : c.at_ = (n : Int)) (h1 : m ≤ 1099511627776) (h2 : n ≤ 1099511627776) (hl : c.ws.length ≤ 1000000) (h : ∀ x ∈ c.ws, x.key.size ≤ 5000 ∧ x.val.size ≤ 5000) : (octCm c).length ≤ 10100 * (c.ws.length + 1) := by
  unfold octCm octC octWs
  rw [e1, e2]
  simp only [Int.toNat_natCast, List.length_append]
  have a := octN_lt m (by omega)
  have b := octN_lt n (by omega)
  have d := octN_lt c.ws.length (by omega)
  have f := flat_len c.ws h
  omega
theorem flatC_len {lo : Nat} {ws : List Wr} {cs : List CmM} (h : Takes lo ws cs) : ∀ z, z ≤ cs.length → ((cs.take z).flatMap octCm).length ≤ 10100 * sumC (cs.take z)
  | 0, _ => by simp
  | z + 1, hz => by
    have ih := flatC_len h z (by omega)
    obtain ⟨m, n, e1, e2, h1, h2, h3, h4⟩ := takes_cm h z (by omega)
    have hl := octCm_len e1 e2 h1 h2 (by omega) h4
    rw [List.take_succ_eq_append_getElem (show z < cs.length by omega), List.flatMap_append, sumC_snoc, List.length_append]
    have : [cs[z]].flatMap octCm = octCm cs[z] := by simp
    rw [this]
    omega
theorem flatC_take (cs : List CmM) (k : Nat) (h : k < cs.length) : (cs.take (k + 1)).flatMap octCm = (cs.take k).flatMap octCm ++ octCm cs[k] := by
  rw [List.take_succ_eq_append_getElem h, List.flatMap_append]
  simp

/-- a world while bytes are laid -/
def EncI (W w2 : World) (w : World) (v : Value) (l : List UInt8) : Prop := BsA W w v l ∧ BsK w2 (.slice none 0 0) w v
theorem EncI.box {W w2 w : World} {v : Value} {l : List UInt8} (h : EncI W w2 w v l) {q : Nat} (hq : q < w2.heap.size) (i : Nat) : w.cell? ⟨q, i, none⟩ = w2.cell? ⟨q, i, none⟩ :=
  World.cell?_of_block (a := ⟨q, i, none⟩) (h.2.2 q hq (by simp [Value.ownBlock])).1

def EncP (W : World) (seq : Int) (ws : List Wr) (cs : List CmM) (e : Ending) (W' : World) : Prop := Below W.heap.size W W' ∧
  (((∀ lo : Nat, (lo : Int) = seq → ¬ Takes lo ws cs) ∧ e = .returned (.tuple #[.string ⟨#[]⟩, .int .i64 1])) ∨
   ∃ lo : Nat, (lo : Int) = seq ∧ Takes lo ws cs ∧ e = .returned (.tuple #[.string ⟨(octSt lo ws cs).toArray⟩, .int .i64 0]))

set_option maxHeartbeats 2000000 in
set_option maxRecDepth 100000 in
theorem encode_any {W : World} (seq : Int) {a : Option Addr} {len cap : Nat} {ws : List Wr} (h : WrsIs W a ws) (hl : ws.length = len) {ca : Option Addr} {cl cc : Nat} {cs : List CmM} (hc : CIs W ca cs) (hcl : cs.length = cl) (hw9 : ws.length < 30000) (hb : Few11 ws cs) (hcb : cl ≤ 1000000) :
    Calls Try.prog 26 #[.agg #[.int .i64 seq, .slice a len cap, .slice ca cl cc]] W (EncP W seq ws cs) := by
  obtain ⟨w1, hw1⟩ : ∃ w1, w1 = W.alloc (.cells #[.int .i64 seq, .slice a len cap, .slice ca cl cc] 43) := ⟨_, rfl⟩
  have hb0 : Below W.heap.size W w1 := by rw [hw1]; exact (Below.refl _ W).alloc (Nat.le_refl _) _
  have hx0 : Box w1 W.heap.size 43 #[.int .i64 seq, .slice a len cap, .slice ca cl cc] := by rw [hw1]; exact Box.new W _ _
  have HB0 := Lib.hid hb0
  have HST : Hid (Calls Try.prog 25 #[.agg #[.int .i64 seq, .slice a len cap, .slice ca cl cc]] w1 fun e w2 => (e = .returned (.tuple #[.pointer none, .int .i64 1]) ∧ Hid (EncP W seq ws cs (.returned (.tuple #[.string ⟨#[]⟩, .int .i64 1])) w2)) ∨
      ∃ t, e = .returned (.tuple #[.pointer (some ⟨t, 0, none⟩), .int .i64 0]) ∧ Hid ((∃ lo : Nat, (lo : Int) = seq ∧ Takes lo ws cs) ∧ Below W.heap.size W w2 ∧ Box w2 W.heap.size 43 #[.int .i64 seq, .slice a len cap, .slice ca cl cc])) := Lib.hid (by
    refine (rcStore_any (cap := cap) (cc := cc) seq (h.below hb0) hl (hc.below hb0) hcl hw9 hb hcb).mono ?_
    rintro e w2 ⟨hb2, ⟨hno, rfl⟩ | ⟨t, lo, h3, h4, h5, rfl, h6⟩⟩
    · exact .inl ⟨rfl, Lib.hid ⟨hb0.trans (hb2.mono hb0.size), .inl ⟨hno, rfl⟩⟩⟩
    · exact .inr ⟨t, rfl, Lib.hid ⟨⟨lo, h3, h5⟩, hb0.trans (hb2.mono hb0.size), (hb2.block _ hx0.lt).trans hx0⟩⟩)
  have HLAY : Hid (∀ (lo : Nat) (w2 : World), (lo : Int) = seq → Takes lo ws cs → Below W.heap.size W w2 → Box w2 W.heap.size 43 #[.int .i64 seq, .slice a len cap, .slice ca cl cc] →
      (w2.cell? ⟨W.heap.size, 0, none⟩ = some (.int .i64 seq) ∧ w2.cell? ⟨W.heap.size, 1, none⟩ = some (.slice a len cap) ∧ w2.cell? ⟨W.heap.size, 2, none⟩ = some (.slice ca cl cc)) ∧
      Calls Try.prog 61 #[.slice none 0 0, .int .i64 seq] w2 fun e w3 => ∃ v1, e = .returned v1 ∧ (w3.cell? ⟨W.heap.size, 0, none⟩ = some (.int .i64 seq) ∧ w3.cell? ⟨W.heap.size, 1, none⟩ = some (.slice a len cap) ∧ w3.cell? ⟨W.heap.size, 2, none⟩ = some (.slice ca cl cc)) ∧
        Hid (Calls Try.prog 60 #[v1, .slice a len cap] w3 fun e w4 => ∃ v2, e = .returned v2 ∧ (w4.cell? ⟨W.heap.size, 0, none⟩ = some (.int .i64 seq) ∧ w4.cell? ⟨W.heap.size, 1, none⟩ = some (.slice a len cap) ∧ w4.cell? ⟨W.heap.size, 2, none⟩ = some (.slice ca cl cc)) ∧
          Hid (Calls Try.prog 61 #[v2, .int .i64 (cl : Int)] w4 fun e w5 => ∃ v3, e = .returned v3 ∧ (w5.cell? ⟨W.heap.size, 0, none⟩ = some (.int .i64 seq) ∧ w5.cell? ⟨W.heap.size, 1, none⟩ = some (.slice a len cap) ∧ w5.cell? ⟨W.heap.size, 2, none⟩ = some (.slice ca cl cc)) ∧ Hid (EncI W w2 w5 v3 (octN lo ++ (octWs ws ++ octN cl) ++ (cs.take 0).flatMap octCm))))) := Lib.hid fun lo w2 hlo ht hb2 hx2 => by
    subst hlo
    obtain ⟨hlo, hws5⟩ := takes_ws ht
    have h9 := octN_lt lo (by omega)
    have hc9 := octN_lt cl (by omega)
    have hw9' := octN_lt ws.length (by omega)
    have hf9 := flat_len ws hws5
    have hnil : Bs 5 W.heap.size w2 (.slice none 0 0) [] := Bs.nil 5 W.heap.size w2
    have hbx : ∀ i, w2.cell? ⟨W.heap.size, i, none⟩ = (#[.int .i64 (lo : Int), .slice a len cap, .slice ca cl cc] : Array Value)[i]? := fun i => hx2.cell i
    have hq := hx2.lt
    have hI : ∀ {w : World} {v : Value} {l : List UInt8}, EncI W w2 w v l → w.cell? ⟨W.heap.size, 0, none⟩ = some (.int .i64 (lo : Int)) ∧ w.cell? ⟨W.heap.size, 1, none⟩ = some (.slice a len cap) ∧ w.cell? ⟨W.heap.size, 2, none⟩ = some (.slice ca cl cc) := fun hi => ⟨(hi.box hq 0).trans (hbx 0), (hi.box hq 1).trans (hbx 1), (hi.box hq 2).trans (hbx 2)⟩
    refine ⟨⟨hbx 0, hbx 1, hbx 2⟩, (num_nat W.heap.size _ [] lo (by omega) w2 (by simp) hb2.size hnil).mono ?_⟩
    rintro e w3 ⟨v1, rfl, ho1, hu1⟩
    have i1 : EncI W w2 w3 v1 ([] ++ octN lo) := ⟨⟨ho1, hb2.trans (hu1.below hnil hb2.size)⟩, hu1.keep⟩
    refine ⟨v1, rfl, hI i1, Lib.hid ?_⟩
    refine (layWrites_any h hl (by omega) hws5 v1 _ (by rw [List.length_append]; simp; omega) i1.1).mono ?_
    rintro e w4 ⟨v2, rfl, ho2, hk2⟩
    have i2 : EncI W w2 w4 v2 ([] ++ octN lo ++ octWs ws) := ⟨ho2, i1.2.trans hk2⟩
    refine ⟨v2, rfl, hI i2, Lib.hid ?_⟩
    refine (num_nat W.heap.size v2 _ cl (by omega) w4 (by unfold octWs; simp only [List.length_append, List.length_nil]; omega) i2.1.2.size i2.1.1).mono ?_
    rintro e w5 ⟨v3, rfl, ho3, hu3⟩
    have i3 : EncI W w2 w5 v3 ([] ++ octN lo ++ octWs ws ++ octN cl) := ⟨⟨ho3, i2.1.2.trans (hu3.below i2.1.1 i2.1.2.size)⟩, i2.2.trans hu3.keep⟩
    refine ⟨v3, rfl, hI i3, Lib.hid ?_⟩
    have e5 : octN lo ++ (octWs ws ++ octN cl) ++ (cs.take 0).flatMap octCm = [] ++ octN lo ++ octWs ws ++ octN cl := by simp
    rw [e5]
    exact i3
  have HRD : Hid (∀ (lo : Nat) (w2 wr : World) (x : Value) (k : Nat), Takes lo ws cs → ∀ hk : k < cs.length, EncI W w2 wr x (octN lo ++ (octWs ws ++ octN cl) ++ (cs.take k).flatMap octCm) →
      ∃ b off wa wc m, ca = some ⟨b, off, none⟩ ∧ wr.cell? ⟨b, off + k * 3, none⟩ = some (.int .i64 (cs[k]).seq) ∧ wr.cell? ⟨b, off + k * 3 + 1, none⟩ = some (.int .i64 (cs[k]).at_) ∧ wr.cell? ⟨b, off + k * 3 + 2, none⟩ = some (.slice wa m wc) ∧
      Calls Try.prog 62 #[x, .agg #[.int .i64 (cs[k]).seq, .int .i64 (cs[k]).at_, .slice wa m wc]] (wr.alloc (.cells #[.int .i64 (cs[k]).seq, .int .i64 (cs[k]).at_, .slice wa m wc] 45)) fun e w1 => ∃ v1, e = .returned v1 ∧ Hid (EncI W w2 w1 v1 (octN lo ++ (octWs ws ++ octN cl) ++ (cs.take (k + 1)).flatMap octCm))) := Lib.hid fun lo w2 wr x k ht hk hi => by
    obtain ⟨hlo, hws5⟩ := takes_ws ht
    have h9 := octN_lt lo (by omega)
    have hc9 := octN_lt cl (by omega)
    have hw9' := octN_lt ws.length (by omega)
    have hf9 := flat_len ws hws5
    have hfc := flatC_len ht k (by omega)
    have hsk := sumC_take cs k
    have hfew := hb lo cs.length (Nat.le_refl _) (by rw [List.take_length]; exact ht)
    rw [List.take_length] at hfew
    obtain ⟨m, n, e1, e2, h1, h2, h3, h4⟩ := takes_cm ht k hk
    rcases hc with rfl | ⟨b, off, rfl, hlt, hin⟩
    · simp at hk
    obtain ⟨q0, q1, wa, wc, q2, hwa⟩ := hin k hk
    have hbw := hi.1.2
    refine ⟨b, off, wa, wc, _, rfl, (hbw.cell (p := ⟨b, _, none⟩) hlt).trans q0, (hbw.cell (p := ⟨b, _, none⟩) hlt).trans q1, (hbw.cell (p := ⟨b, _, none⟩) hlt).trans q2, ?_⟩
    have hown : BsA W (wr.alloc (.cells #[.int .i64 (cs[k]).seq, .int .i64 (cs[k]).at_, .slice wa (cs[k]).ws.length wc] 45)) x (octN lo ++ (octWs ws ++ octN cl) ++ (cs.take k).flatMap octCm) :=
      ⟨hi.1.1.grow (World.grownBy_alloc wr _ none), hbw.alloc hbw.size _⟩
    rw [flatC_take cs k hk, ← List.append_assoc]
    have e3 : octCm cs[k] = octC m n (cs[k]).ws := by unfold octCm; rw [e1, e2]; simp
    rw [e1, e2] at hown ⊢
    rw [e3]
    refine (layC_any hwa rfl (by omega) h4 m n h1 h2 x _ (by unfold octWs; simp only [List.length_append]; omega) hown).mono ?_
    rintro e w1 ⟨v1, rfl, ho, hkk⟩
    exact ⟨v1, rfl, Lib.hid ⟨ho, (hi.2.trans (BsK.alloc wr x _)).trans hkk⟩⟩
  have HF : Hid (∀ (lo : Nat) (w2 wr : World) (x : Value), (lo : Int) = seq → Takes lo ws cs → EncI W w2 wr x (octN lo ++ (octWs ws ++ octN cl) ++ (cs.take cl).flatMap octCm) →
      ∃ S, (convert 68 9 x).run Try.prog wr = .ok (.string S) wr ∧ Hid (EncP W seq ws cs (.returned (.tuple #[.string S, .int .i64 0])) wr)) := Lib.hid fun lo w2 wr x hlo ht hi => by
    refine ⟨_, bsK.conv_bs 5 W.heap.size wr 68 9 Try.underlying68 Try.underlying5 Try.underlying9 x _ hi.1.1, Lib.hid ⟨hi.1.2, .inr ⟨lo, hlo, ht, ?_⟩⟩⟩
    rw [← hcl, List.take_length]
    unfold octSt
    simp only [List.append_assoc]
  have HCL := Lib.hid hcl
  obtain ⟨Q, hQ⟩ : ∃ Q, Q = EncP W seq ws cs := ⟨_, rfl⟩
  rw [← hQ] at HST HF ⊢
  clear hQ h hl hc hcl hw9 hb hb0 hx0
  have hc0 : w1.heap.size = w1.heap.size := rfl
  subst hw1
  go_enter Try.func26, Try.ntmps26
  go_wp2_with fail
  refine HST.out.mono ?_
  rintro e w2 (⟨rfl, HE⟩ | ⟨t, rfl, HT⟩)
  · clear HST HLAY HRD HF HCL HB0
    go_wp2
    exact HE.out
  · obtain ⟨⟨lo, hlo, ht⟩, hb2, hx2⟩ := HT.out
    have hd := HLAY.out lo w2.drew hlo ht hb2.drew hx2
    obtain ⟨hS, hnum⟩ := hd
    have HS := Lib.hid hS
    have HC := Lib.hid hnum
    have HRD2 := Lib.hid (HRD.out lo w2.drew)
    have HF2 := Lib.hid (HF.out lo w2.drew)
    have HTK := Lib.hid (And.intro hlo ht)
    clear HST HLAY HRD HF HT hlo ht hb2 hx2 hS hnum HB0
    go_wp2_with fail
    refine wp_region_held_drew (S := fun w' => w'.cell? ⟨W.heap.size, 0, none⟩ = some (.int .i64 seq) ∧ w'.cell? ⟨W.heap.size, 1, none⟩ = some (.slice a len cap) ∧ w'.cell? ⟨W.heap.size, 2, none⟩ = some (.slice ca cl cc)) (by kernel_rfl) (by exact HS.out) (fun hHeld => ?_)
    refine wpAnyH_take (i := 0) (oi := _) (v := ?_) rfl (by kernel_rfl) (by kernel_rfl) (by kernel_rfl) (fun _ _ _ h => h) (Or.inl ⟨by rfl, ?_⟩) (by assumption) ?_
    rotate_left
    · (intro w' hSw; (try dsimp only at hSw); go_simp; all_goals with_reducible rfl)
    try simp only [Act.put, List.getElem_toArray, List.getElem_cons_zero, List.getElem_cons_succ, List.setIfInBounds_toArray, List.set_cons_zero, List.set_cons_succ]
    refine wpAnyH_take (i := 1) (oi := _) (v := ?_) rfl (by kernel_rfl) (by kernel_rfl) (by kernel_rfl) (fun _ _ _ h => h) (Or.inl ⟨by rfl, ?_⟩) (by assumption) ?_
    rotate_left
    · (intro w' hSw; (try dsimp only at hSw); go_simp; all_goals with_reducible rfl)
    try simp only [Act.put, List.getElem_toArray, List.getElem_cons_zero, List.getElem_cons_succ, List.setIfInBounds_toArray, List.set_cons_zero, List.set_cons_succ]
    refine wpAnyH_take (i := 3) (oi := _) (v := ?_) rfl (by kernel_rfl) (by kernel_rfl) (by kernel_rfl) (fun _ _ _ h => h) (Or.inl ⟨by rfl, ?_⟩) (by assumption) ?_
    rotate_left
    · (intro w' hSw; (try dsimp only at hSw); go_simp; all_goals with_reducible rfl)
    try simp only [Act.put, List.getElem_toArray, List.getElem_cons_zero, List.getElem_cons_succ, List.setIfInBounds_toArray, List.set_cons_zero, List.set_cons_succ]
    refine wpAnyH_take (i := 4) (oi := _) (v := ?_) rfl (by kernel_rfl) (by kernel_rfl) (by kernel_rfl) (fun _ _ _ h => h) (Or.inl ⟨by rfl, ?_⟩) (by assumption) ?_
    rotate_left
    · (intro w' hSw; (try dsimp only at hSw); go_simp; all_goals with_reducible rfl)
    try simp only [Act.put, List.getElem_toArray, List.getElem_cons_zero, List.getElem_cons_succ, List.setIfInBounds_toArray, List.set_cons_zero, List.set_cons_succ]
    refine wpAnyH_ready (rs := [2]) (by kernel_rfl) (by simp) ?_
    refine AllReadyH.cons rfl (fun K hK => ?_) AllReadyH.nil
    go_simp
    refine HC.out.mono ?_
    rintro e w3 ⟨v1, rfl, hS1, HC2⟩
    refine hK.out _ _ (by exact hS1) (fun hHeld => ?_)
    clear hK K
    try simp only [Act.put, List.getElem_toArray, List.getElem_cons_zero, List.getElem_cons_succ, List.setIfInBounds_toArray, List.set_cons_zero, List.set_cons_succ]
    refine wpAnyH_ready (rs := [5]) (by kernel_rfl) (by simp) ?_
    refine AllReadyH.cons rfl (fun K hK => ?_) AllReadyH.nil
    go_simp
    refine HC2.out.mono ?_
    rintro e w4 ⟨v2, rfl, hS2, HC3⟩
    refine hK.out _ _ (by exact hS2) (fun hHeld => ?_)
    clear hK K
    try simp only [Act.put, List.getElem_toArray, List.getElem_cons_zero, List.getElem_cons_succ, List.setIfInBounds_toArray, List.set_cons_zero, List.set_cons_succ]
    refine wpAnyH_take (i := 6) (oi := _) (v := ?_) rfl (by kernel_rfl) (by kernel_rfl) (by kernel_rfl) (fun _ _ _ h => h) (Or.inl ⟨by rfl, ?_⟩) (by assumption) ?_
    rotate_left
    · (intro w' hSw; (try dsimp only at hSw); go_simp; all_goals with_reducible rfl)
    try simp only [Act.put, List.getElem_toArray, List.getElem_cons_zero, List.getElem_cons_succ, List.setIfInBounds_toArray, List.set_cons_zero, List.set_cons_succ]
    refine wpAnyH_done (by kernel_rfl) ?_ _
    clear HC HC2 hHeld HS hS1
    obtain ⟨d0, d1, d2⟩ := hS2
    go_wp2_with fail
    refine HC3.out.mono ?_
    rintro e w5 ⟨v3, rfl, ⟨d0, d1, d2⟩, HI⟩
    clear HC3
    go_wp2_with fail
    go_loopw [6, 30] (fun x c wr => ∃ k : Nat, k ≤ cl ∧ c = .int .i64 (k : Int) ∧ Hid (EncI W w2.drew wr x (octN lo ++ (octWs ws ++ octN cl) ++ (cs.take k).flatMap octCm))) (fun _ c _ => cl - (intOf c).toNat)
    case atStart => exact ⟨0, Nat.zero_le _, rfl, HI⟩
    case round =>
      obtain ⟨k, hk, rfl, hst⟩ := hrel
      clear HI d0 d1 d2
      by_cases hlt : k < cl
      · have hk2 : k < cs.length := by rw [HCL.out]; exact hlt
        obtain ⟨b, off, wa, wc, m, rfl, q0, q1, q2, hcall⟩ := HRD2.out wr u6 k HTK.out.2 hk2 hst.out
        have HC := Lib.hid hcall
        clear hcall HRD2 HF2 hst
        go_wp2_with fail
        refine HC.out.mono ?_
        rintro e w6 ⟨v6, rfl, HI6⟩
        clear HC
        go_wp2
        go_roundw
        case rel => exact ⟨k + 1, by omega, by simp, HI6⟩
        case measure => simp [intOf]; omega
      · obtain rfl : k = cl := by omega
        obtain ⟨S, hcv, HQ⟩ := HF2.out wr u6 HTK.out.1 HTK.out.2 hst.out
        clear HRD2 HF2 hst HTK
        go_wp2
        exact HQ.out

end Go.Proofs.Ytcebnoapgceodaa.sT
end

section
namespace Go.Proofs.Ytcebnoapgceodaa.sT
open Go.RowKit Go.Proofs.Ytcebnoapgceodaa.rdS

set_option linter.unusedVariables false
set_option linter.unusedSimpArgs false

abbrev RdSt := Option (List UInt8)
def rw1 (st : RdSt) : RdSt := (textS st 400).2
def rw2 (st : RdSt) : RdSt := (flagS (rw1 st)).2
def rw3 (st : RdSt) : RdSt := (textS (rw2 st) 4096).2
/-- a write as it is read -/
def rdW (st : RdSt) : Wr := ⟨⟨(textS st 400).1.toArray⟩, ⟨(textS (rw2 st) 4096).1.toArray⟩, (flagS (rw1 st)).1⟩
/-- what was read ahead, and what comes of the rest -/
def finR {α : Type} (pre : List α) : List α × RdSt → List α × RdSt
  | (_, none) => ([], none)
  | (xs, some r) => (pre ++ xs, some r)
def rdWs : Nat → RdSt → List Wr × RdSt
  | 0, st => finR [] ([], st)
  | n + 1, st => match rw3 st with
    | none => ([], none)
    | some l => finR [rdW st] (rdWs n (some l))
theorem finR_fin {α : Type} (a b : List α) (x : List α × RdSt) : finR a (finR b x) = finR (a ++ b) x := by
  obtain ⟨xs, st⟩ := x
  cases st with
  | none => rfl
  | some r => simp [finR]
theorem rdWs_none (pre : List Wr) (m : Nat) {st : RdSt} (h : rw3 st = none) : finR pre (rdWs (m + 1) st) = ([], none) := by
  unfold rdWs; rw [h]; rfl
theorem rdWs_some (pre : List Wr) (m : Nat) {st : RdSt} {l : L} (h : rw3 st = some l) : finR pre (rdWs (m + 1) st) = finR (pre ++ [rdW st]) (rdWs m (rw3 st)) := by
  conv => lhs; unfold rdWs
  rw [h]
  exact finR_fin _ _ _
def readWs (st : RdSt) (M : Nat) : List Wr × RdSt := rdWs (numS st M).1 (numS st M).2

theorem rdW_back {st : RdSt} {l : L} (h : rw3 st = some l) : st = some (octW (rdW st) ++ l) ∧ (rdW st).key.size ≤ 400 ∧ (rdW st).val.size ≤ 4096 := by
  obtain ⟨v, hv⟩ : ∃ v, textS (rw2 st) 4096 = (v, some l) := ⟨_, Prod.ext rfl h⟩
  obtain ⟨b2, l2⟩ := textS_back hv
  obtain ⟨g, hg⟩ : ∃ g, flagS (rw1 st) = (g, some (octT ⟨v.toArray⟩ ++ l)) := ⟨_, Prod.ext rfl b2⟩
  have b1 := flagS_back hg
  obtain ⟨k, hk⟩ : ∃ k, textS st 400 = (k, some (octF g ++ (octT ⟨v.toArray⟩ ++ l))) := ⟨_, Prod.ext rfl b1⟩
  obtain ⟨b0, l0⟩ := textS_back hk
  have e : rdW st = ⟨⟨k.toArray⟩, ⟨v.toArray⟩, g⟩ := by unfold rdW; rw [hk, hv, hg]
  rw [e]
  refine ⟨?_, l0, l2⟩
  rw [b0]
  unfold octW
  simp only [List.append_assoc]

theorem rdWs_back : ∀ (n : Nat) {st : RdSt} {ws : List Wr} {r : L}, rdWs n st = (ws, some r) → st = some (ws.flatMap octW ++ r) ∧ ws.length = n ∧ ∀ x ∈ ws, x.key.size ≤ 400 ∧ x.val.size ≤ 4096
  | 0, st, ws, r, h => by
    unfold rdWs finR at h
    cases st with
    | none => simp at h
    | some l =>
      simp only [List.append_nil, Prod.mk.injEq, Option.some.injEq] at h
      obtain ⟨rfl, rfl⟩ := h
      exact ⟨rfl, rfl, fun x hx => by simp at hx⟩
  | n + 1, st, ws, r, h => by
    unfold rdWs at h
    cases h3 : rw3 st with
    | none => rw [h3] at h; simp at h
    | some l =>
      rw [h3] at h
      simp only at h
      cases hq : rdWs n (some l) with
      | mk xs st2 =>
        rw [hq] at h
        cases st2 with
        | none => simp [finR] at h
        | some r2 =>
          simp only [finR, Prod.mk.injEq, Option.some.injEq] at h
          obtain ⟨rfl, rfl⟩ := h
          obtain ⟨k1, k2, k3⟩ := rdWs_back n hq
          obtain ⟨j1, j2, j3⟩ := rdW_back h3
          refine ⟨?_, by simp [k2], fun x hx => ?_⟩
          · refine j1.trans ?_
            rw [Option.some.inj k1]
            simp
          · rcases List.mem_append.1 hx with hx | hx
            · obtain rfl : x = rdW st := by simpa using hx
              exact ⟨j2, j3⟩
            · exact k3 x hx
theorem readWs_back {st : RdSt} {M : Nat} {ws : List Wr} {r : L} (h : readWs st M = (ws, some r)) : st = some (octWs ws ++ r) ∧ ws.length ≤ M ∧ ∀ x ∈ ws, x.key.size ≤ 400 ∧ x.val.size ≤ 4096 := by
  unfold readWs at h
  obtain ⟨k1, k2, k3⟩ := rdWs_back _ h
  obtain ⟨n, hn⟩ : ∃ n, numS st M = (n, some (ws.flatMap octW ++ r)) := ⟨_, Prod.ext rfl k1⟩
  obtain ⟨j1, _, j3⟩ := numS_back hn
  rw [hn] at k2
  simp only at k2
  refine ⟨?_, by omega, k3⟩
  rw [j1, ← k2]
  unfold octWs
  simp

theorem octW_pos (x : Wr) : 3 ≤ (octW x).length := by
  unfold octW octT octN octF
  simp only [List.length_append, List.length_cons]
  omega
theorem flat_pos : ∀ ws : List Wr, 3 * ws.length ≤ (ws.flatMap octW).length
  | [] => by simp
  | x :: r => by
    rw [List.flatMap_cons, List.length_append, List.length_cons]
    have h1 := octW_pos x
    have h2 := flat_pos r
    omega

/-- a commit as it is read -/
def rc1 (st : RdSt) : RdSt := (numS st 1099511627776).2
def rc2 (st : RdSt) : RdSt := (numS (rc1 st) 1099511627776).2
def rdC (st : RdSt) : CmM := ⟨((numS st 1099511627776).1 : Int), ((numS (rc1 st) 1099511627776).1 : Int), (readWs (rc2 st) 200).1⟩
def rc3 (st : RdSt) : RdSt := (readWs (rc2 st) 200).2
theorem rdC_back {st : RdSt} {l : L} (h : rc3 st = some l) : st = some (octCm (rdC st) ++ l) ∧ 0 ≤ (rdC st).seq ∧ 0 ≤ (rdC st).at_ ∧ (rdC st).ws.length ≤ 200 ∧ ∀ x ∈ (rdC st).ws, x.key.size ≤ 400 ∧ x.val.size ≤ 4096 := by
  obtain ⟨ws, hws⟩ : ∃ ws, readWs (rc2 st) 200 = (ws, some l) := ⟨_, Prod.ext rfl h⟩
  obtain ⟨b2, l2, k2⟩ := readWs_back hws
  obtain ⟨t, ht⟩ : ∃ t, numS (rc1 st) 1099511627776 = (t, some (octWs ws ++ l)) := ⟨_, Prod.ext rfl b2⟩
  obtain ⟨b1, _, l1⟩ := numS_back ht
  obtain ⟨s, hs⟩ : ∃ s, numS st 1099511627776 = (s, some (octN t ++ (octWs ws ++ l))) := ⟨_, Prod.ext rfl b1⟩
  obtain ⟨b0, _, l0⟩ := numS_back hs
  have e : rdC st = ⟨(s : Int), (t : Int), ws⟩ := by unfold rdC; rw [hs, ht, hws]
  rw [e]
  refine ⟨?_, by show (0 : Int) ≤ (s : Int); omega, by show (0 : Int) ≤ (t : Int); omega, l2, k2⟩
  rw [b0]
  unfold octCm octC
  simp only [List.append_assoc, Int.toNat_natCast]
def rdCs : Nat → RdSt → List CmM × RdSt
  | 0, st => finR [] ([], st)
  | n + 1, st => match rc3 st with
    | none => ([], none)
    | some l => finR [rdC st] (rdCs n (some l))
theorem rdCs_none (pre : List CmM) (m : Nat) {st : RdSt} (h : rc3 st = none) : finR pre (rdCs (m + 1) st) = ([], none) := by
  unfold rdCs; rw [h]; rfl
theorem rdCs_some (pre : List CmM) (m : Nat) {st : RdSt} {l : L} (h : rc3 st = some l) : finR pre (rdCs (m + 1) st) = finR (pre ++ [rdC st]) (rdCs m (rc3 st)) := by
  conv => lhs; unfold rdCs
  rw [h]
  exact finR_fin _ _ _
def readCs (st : RdSt) : List CmM × RdSt := rdCs (numS st 1099511627776).1 (numS st 1099511627776).2
theorem rdCs_back : ∀ (n : Nat) {st : RdSt} {cs : List CmM} {r : L}, rdCs n st = (cs, some r) → st = some (cs.flatMap octCm ++ r) ∧ cs.length = n ∧ ∀ c ∈ cs, 0 ≤ c.seq ∧ 0 ≤ c.at_ ∧ c.ws.length ≤ 200 ∧ ∀ x ∈ c.ws, x.key.size ≤ 400 ∧ x.val.size ≤ 4096
  | 0, st, cs, r, h => by
    unfold rdCs finR at h
    cases st with
    | none => simp at h
    | some l =>
      simp only [List.append_nil, Prod.mk.injEq, Option.some.injEq] at h
      obtain ⟨rfl, rfl⟩ := h
      exact ⟨rfl, rfl, fun x hx => by simp at hx⟩
  | n + 1, st, cs, r, h => by
    unfold rdCs at h
    cases h3 : rc3 st with
    | none => rw [h3] at h; simp at h
    | some l =>
      rw [h3] at h
      simp only at h
      cases hq : rdCs n (some l) with
      | mk xs st2 =>
        rw [hq] at h
        cases st2 with
        | none => simp [finR] at h
        | some r2 =>
          simp only [finR, Prod.mk.injEq, Option.some.injEq] at h
          obtain ⟨rfl, rfl⟩ := h
          obtain ⟨k1, k2, k3⟩ := rdCs_back n hq
          obtain ⟨j1, j2⟩ := rdC_back h3
          refine ⟨?_, by simp [k2], fun x hx => ?_⟩
          · refine j1.trans ?_
            rw [Option.some.inj k1]
            simp
          · rcases List.mem_append.1 hx with hx | hx
            · obtain rfl : x = rdC st := by simpa using hx
              exact j2
            · exact k3 x hx
theorem readCs_back {st : RdSt} {cs : List CmM} {r : L} (h : readCs st = (cs, some r)) : st = some (octN cs.length ++ cs.flatMap octCm ++ r) ∧ ∀ c ∈ cs, 0 ≤ c.seq ∧ 0 ≤ c.at_ ∧ c.ws.length ≤ 200 ∧ ∀ x ∈ c.ws, x.key.size ≤ 400 ∧ x.val.size ≤ 4096 := by
  unfold readCs at h
  obtain ⟨k1, k2, k3⟩ := rdCs_back _ h
  obtain ⟨n, hn⟩ : ∃ n, numS st 1099511627776 = (n, some (cs.flatMap octCm ++ r)) := ⟨_, Prod.ext rfl k1⟩
  obtain ⟨j1, _, j3⟩ := numS_back hn
  rw [hn] at k2
  simp only at k2
  refine ⟨?_, k3⟩
  rw [j1, ← k2]
  simp
theorem octCm_pos (c : CmM) : 3 + 3 * c.ws.length ≤ (octCm c).length := by
  unfold octCm octC octWs
  have h1 := flat_pos c.ws
  have h2 : ∀ n, 1 ≤ (octN n).length := fun n => by unfold octN; simp
  have a := h2 c.seq.toNat
  have b := h2 c.at_.toNat
  have d := h2 c.ws.length
  simp only [List.length_append]
  omega
theorem sum_pos : ∀ cs : List CmM, 3 * sumC cs ≤ (cs.flatMap octCm).length
  | [] => by simp [sumC]
  | c :: r => by
    rw [List.flatMap_cons, List.length_append, sumC_cons]
    have h1 := octCm_pos c
    have h2 := sum_pos r
    omega

end Go.Proofs.Ytcebnoapgceodaa.sT
end

section
namespace Go.Proofs.Ytcebnoapgceodaa.sT
open Go.RowKit Go.Proofs.Ytcebnoapgceodaa.rdS

set_option linter.unusedVariables false
set_option linter.unusedSimpArgs false

/-- one write appended to a row that the call owns -/
theorem app_w {B : Nat} {w : World} {v : Value} {xs : List Wr} (h : RowK 48 3 B w v xs.length (xs.flatMap wrcells)) (hB : B ≤ w.heap.size) (hn : xs.length ≤ 1000000) (x : Wr) (ty : TypeId) :
    ∃ a' c' w', (Builtin.append_ #[22, 22] ty #[v, .slice (some ⟨w.heap.size, 0, none⟩) 1 1]).run Try.prog (w.alloc (.cells #[.string x.key, .string x.val, .bool x.gone] 48)) = .ok (.slice a' (xs.length + 1) c') w' ∧ RowK 48 3 B w' (.slice a' (xs.length + 1) c') (xs ++ [x]).length ((xs ++ [x]).flatMap wrcells) ∧ Up w v w' (.slice a' (xs.length + 1) c') := by
  obtain ⟨i, hi, hz, hi1, hi2⟩ := info_parts infoWr
  have hb := Box.new w 48 #[.string x.key, .string x.val, .bool x.gone]
  obtain ⟨v', w', hr, ho', hu⟩ := run_app (P := Try.prog) (w.alloc (.cells #[.string x.key, .string x.val, .bool x.gone] 48)) B 22 ty 48 i _ 3 40 Try.underlying22 hi hz hi1 hi2 rfl (by decide) v xs.length (xs.flatMap wrcells) (World.ownsRow.alloc h.1 _)
    ⟨w.heap.size, 0, none⟩ 1 1 (wrcells x) rfl (fun j u hj => by
      rw [addr_at, hb.cell]
      simpa [wrcells] using hj) (by intro u hu; simp [wrcells] at hu; rcases hu with rfl | rfl | rfl <;> rfl) (by unfold maxLen; omega) (by omega) (by simp; omega)
  have hrow : RowK 48 3 B w' v' (xs ++ [x]).length ((xs ++ [x]).flatMap wrcells) := by
    refine ⟨?_, ?_⟩
    · rw [List.flatMap_append, List.length_append]
      simpa using ho'
    · intro u hu
      rw [List.flatMap_append, List.mem_append] at hu
      rcases hu with hu | hu
      · exact h.2 u hu
      · simp [wrcells] at hu; rcases hu with rfl | rfl | rfl <;> rfl
  obtain ⟨a', c', e, _⟩ := hrow.form
  rw [List.length_append] at e
  have e : v' = .slice a' (xs.length + 1) c' := e
  subst e
  exact ⟨a', c', w', hr, hrow, hu.alloc⟩

def SL (k : Nat) (st : RdSt) : Prop := (∀ l, st = some l → 3 * k + l.length ≤ 1000000) ∧ (st = none → k = 0)
theorem SL.len {k : Nat} {st : RdSt} (h : SL k st) : stLen st := fun l e => by have := h.1 l e; omega
/-- what stands while writes are read -/
def RwI (w : World) (b : Nat) (wr : World) (v : Value) (pre : List Wr) (st : RdSt) : Prop := b < w.heap.size ∧ GS w b st wr ∧ RowK 48 3 w.heap.size wr v pre.length (pre.flatMap wrcells) ∧ SL pre.length st

theorem grown_set {w w' : World} {r : Option Nat} (h : w.grownBy w' r) {p : Nat} (hp : w.heap.size ≤ p) (i : Nat) (u : Value) : w.grownBy (w'.setCell ⟨p, i, none⟩ u) r :=
  grown_trans h (grown_setCell w' p i u) (.inr fun k e => by injection e with e; omega)

/-- one write read -/
theorem round_w {w wr : World} {b : Nat} {v : Value} {pre : List Wr} {st : RdSt} (h : RwI w b wr v pre st) (ty : TypeId) :
    Calls Try.prog 116 #[.pointer (some ⟨b, 0, none⟩), .int .i64 400] wr fun e w1 => ∃ key, e = .returned (.string key) ∧
      Hid (Calls Try.prog 117 #[.pointer (some ⟨b, 0, none⟩)] (w1.alloc (.cells #[.string key, .string ⟨#[]⟩, .bool false] 48)) fun e w2 => ∃ gn, e = .returned (.bool gn) ∧ w2.cell? ⟨w1.heap.size, 2, none⟩ = some (.bool false) ∧ w2.frozen? ⟨w1.heap.size, 2, none⟩ = false ∧
        Hid (Calls Try.prog 116 #[.pointer (some ⟨b, 0, none⟩), .int .i64 4096] (w2.setCell ⟨w1.heap.size, 2, none⟩ (.bool gn)) fun e w3 => ∃ val, e = .returned (.string val) ∧ w3.cell? ⟨w1.heap.size, 1, none⟩ = some (.string ⟨#[]⟩) ∧ w3.frozen? ⟨w1.heap.size, 1, none⟩ = false ∧
          Hid (Calls Try.prog 111 #[.pointer (some ⟨b, 0, none⟩)] (w3.setCell ⟨w1.heap.size, 1, none⟩ (.string val)) fun e w4 =>
            (e = .returned (.int .i64 2) ∧ Hid (rw3 st = none ∧ GS w b none w4)) ∨
            (e = .returned (.int .i64 0) ∧ (w4.cell? ⟨w1.heap.size, 0, none⟩ = some (.string key) ∧ w4.cell? ⟨w1.heap.size, 1, none⟩ = some (.string val) ∧ w4.cell? ⟨w1.heap.size, 2, none⟩ = some (.bool gn)) ∧ ∃ a' c' w5,
              (Builtin.append_ #[22, 22] ty #[v, .slice (some ⟨w4.heap.size, 0, none⟩) 1 1]).run Try.prog (w4.alloc (.cells #[.string key, .string val, .bool gn] 48)) = .ok (.slice a' (pre.length + 1) c') w5 ∧
              Hid ((∃ l, rw3 st = some l) ∧ RwI w b w5 (.slice a' (pre.length + 1) c') (pre ++ [rdW st]) (rw3 st)))))) := by
  obtain ⟨hb, hg, hrow, hsl⟩ := h
  have hlen := hsl.len
  refine (text_s b st hlen 400 400 rfl (by omega) wr hg.1).mono ?_
  rintro e w1 ⟨rfl, g1⟩
  have hz1 := g1.2.size
  have hzr := hg.2.size
  refine ⟨_, rfl, Lib.hid ?_⟩
  obtain ⟨key, hkey⟩ : ∃ key : ByteArray, key = ⟨(textS st 400).1.toArray⟩ := ⟨_, rfl⟩
  rw [← hkey]
  have hba : Below w1.heap.size w1 (w1.alloc (.cells #[.string key, .string ⟨#[]⟩, .bool false] 48)) := (Below.refl _ _).alloc (Nat.le_refl _) _
  have g1a := g1.below hba
  have hbx1 := Box.new w1 48 #[.string key, .string ⟨#[]⟩, .bool false]
  refine (flag_s b (rw1 st) _ g1a.1).mono ?_
  rintro e w2 ⟨rfl, g2⟩
  have hbx2 : Box w2 w1.heap.size 48 #[.string key, .string ⟨#[]⟩, .bool false] := (g2.other hbx1.lt (by omega)).trans hbx1
  refine ⟨_, rfl, hbx2.cell 2, hbx2.free 2, Lib.hid ?_⟩
  obtain ⟨gn, hgn⟩ : ∃ gn, gn = (flagS (rw1 st)).1 := ⟨_, rfl⟩
  rw [← hgn]
  have hbx3 : Box (w2.setCell ⟨w1.heap.size, 2, none⟩ (.bool gn)) w1.heap.size 48 #[.string key, .string ⟨#[]⟩, .bool gn] := hbx2.setSame 2 _
  have hr3 : RS (w2.setCell ⟨w1.heap.size, 2, none⟩ (.bool gn)) b (rw2 st) := g2.1.keep (Below.heap_setCell w2 ⟨w1.heap.size, 2, none⟩ _ b (by show b ≠ w1.heap.size; omega))
  have hl2 : stLen (rw2 st) := flagS_len (textS_len hlen)
  refine (text_s b (rw2 st) hl2 4096 4096 rfl (by omega) _ hr3).mono ?_
  rintro e w3 ⟨rfl, g3⟩
  have hbx4 : Box w3 w1.heap.size 48 #[.string key, .string ⟨#[]⟩, .bool gn] := (g3.other hbx3.lt (by omega)).trans hbx3
  refine ⟨_, rfl, hbx4.cell 1, hbx4.free 1, Lib.hid ?_⟩
  obtain ⟨val, hval⟩ : ∃ val : ByteArray, val = ⟨(textS (rw2 st) 4096).1.toArray⟩ := ⟨_, rfl⟩
  rw [← hval]
  have hbx5 : Box (w3.setCell ⟨w1.heap.size, 1, none⟩ (.string val)) w1.heap.size 48 #[.string key, .string val, .bool gn] := hbx4.setSame 1 _
  have hr5 : RS (w3.setCell ⟨w1.heap.size, 1, none⟩ (.string val)) b (rw3 st) := g3.1.keep (Below.heap_setCell w3 ⟨w1.heap.size, 1, none⟩ _ b (by show b ≠ w1.heap.size; omega))
  have G2 : wr.grownBy w2 (some b) := grown_trans (grown_trans g1.2 (grown_alloc w1 _ _) (.inl rfl)) g2.2 (.inl rfl)
  have G3 : wr.grownBy w3 (some b) := grown_trans (grown_set G2 hz1 2 (.bool gn)) g3.2 (.inl rfl)
  have G5 : wr.grownBy (w3.setCell ⟨w1.heap.size, 1, none⟩ (.string val)) (some b) := grown_set G3 hz1 1 (.string val)
  have G : w.grownBy (w3.setCell ⟨w1.heap.size, 1, none⟩ (.string val)) (some b) := grown_trans hg.2 G5 (.inl rfl)
  obtain ⟨w5, hw5⟩ : ∃ w5, w5 = w3.setCell ⟨w1.heap.size, 1, none⟩ (.string val) := ⟨_, rfl⟩
  rw [← hw5] at hbx5 hr5 G5 G ⊢
  have hne : v.ownBlock = none ∨ v.ownBlock ≠ some b := .inr fun e => by have := (hrow.lt b e).1; omega
  have hrow5 := hrow.grown G5 hne
  cases h3 : rw3 st with
  | none =>
    rw [h3] at hr5
    refine (err_bad b _ w5 hr5).mono ?_
    rintro e w4 ⟨rfl, rfl⟩
    exact .inl ⟨rfl, Lib.hid ⟨rfl, hr5, G⟩⟩
  | some l =>
    rw [h3] at hr5
    refine (err_good b _ w5 hr5).mono ?_
    rintro e w4 ⟨rfl, rfl⟩
    have hx : rdW st = ⟨key, val, gn⟩ := by unfold rdW; rw [hkey, hval, hgn]
    obtain ⟨hback, _, _⟩ := rdW_back h3
    have hsl2 := hsl.1 _ hback
    rw [List.length_append] at hsl2
    have hp := octW_pos (rdW st)
    obtain ⟨a', c', w6, hr6, ho6, hu6⟩ := app_w hrow5 G.size (by omega) ⟨key, val, gn⟩ ty
    refine .inr ⟨rfl, ⟨hbx5.cell 0, hbx5.cell 1, hbx5.cell 2⟩, a', c', w6, hr6, Lib.hid ⟨⟨l, rfl⟩, hb, ⟨?_, ?_⟩, ?_, ?_⟩⟩
    · exact RS.keep (st := some l) hr5 (hu6.1.block b (RS.lt (st := some l) hr5) fun e => by have := (hrow.lt b e.symm).1; omega)
    · exact grown_trans G hu6.1 (.inr fun k e => (hrow.lt k e).1)
    · rw [hx]; exact ho6
    · refine ⟨fun l' e => ?_, fun e => by cases e⟩
      injection e with e
      subst e
      rw [List.length_append]
      show 3 * (pre.length + 1) + _ ≤ _
      omega

theorem rdWs_fin (n : Nat) (st : RdSt) : finR [] (rdWs n st) = rdWs n st := by
  cases n with
  | zero => unfold rdWs; exact finR_fin _ _ _
  | succ m =>
    unfold rdWs
    split
    · rfl
    · exact finR_fin _ _ _
theorem fin_end {pre : List Wr} {st : RdSt} (h : st = none → pre = []) : finR pre (rdWs 0 st) = (pre, st) := by
  unfold rdWs
  rw [finR_fin]
  cases st with
  | none => rw [h rfl]; rfl
  | some r => simp [finR]

def RdWsP (w : World) (b : Nat) (R : List Wr × RdSt) (e : Ending) (w' : World) : Prop := ∃ a c, e = .returned (.slice a R.1.length c) ∧ GS w b R.2 w' ∧ RowK 48 3 w.heap.size w' (.slice a R.1.length c) R.1.length (R.1.flatMap wrcells)

attribute [-go_sem] Builtin.append_
set_option maxHeartbeats 2000000 in
set_option maxRecDepth 100000 in
theorem readWs_any (b : Nat) (st : RdSt) (hl : ∀ l, st = some l → l.length ≤ 1000000) (most : Int) (M : Nat) (hm : most = (M : Int)) (hM : M ≤ 9223372036854775807) (w : World) (h : RS w b st) :
    Calls Try.prog 69 #[.pointer (some ⟨b, 0, none⟩), .int .i64 most] w (RdWsP w b (readWs st M)) := by
  have hnum := num_s b st most M hm hM w h
  have hlt0 := h.lt
  have hle := numS_le st M
  obtain ⟨R, hR⟩ : ∃ R, R = readWs st M := ⟨_, rfl⟩
  have hR2 := hR
  unfold readWs at hR2
  rw [← hR]
  have hsl0 : SL 0 (numS st M).2 := by
    refine ⟨fun l e => ?_, fun _ => rfl⟩
    have := (numS_back (st := st) (M := M) (n := (numS st M).1) (r := l) (Prod.ext rfl e)).1
    have h3 := hl _ this
    rw [List.length_append] at h3
    omega
  obtain ⟨n, hn⟩ : ∃ n, n = (numS st M).1 := ⟨_, rfl⟩
  obtain ⟨s1, hs1⟩ : ∃ x, x = (numS st M).2 := ⟨_, rfl⟩
  rw [← hn, ← hs1] at hnum hR2
  rw [← hn] at hle
  rw [← hs1] at hsl0
  have HNUM : Hid (Calls Try.prog 68 #[.pointer (some ⟨b, 0, none⟩), .int .i64 most] w fun e w' => e = .returned (.int .i64 (n : Int)) ∧ Hid (finR [] (rdWs n s1) = R ∧ RwI w b w' (.slice none 0 0) [] s1)) := Lib.hid (hnum.mono fun e w' ⟨h1, h2⟩ => ⟨h1, Lib.hid ⟨(rdWs_fin n s1).trans hR2.symm, hlt0, h2, ⟨World.ownsRow_nil w' _ _ 3, fun u hu => by simp at hu⟩, hsl0⟩⟩)
  have HRD : Hid (∀ k pre st' v wr, k < n → pre.length = k → finR pre (rdWs (n - k) st') = R → RwI w b wr v pre st' →
      Calls Try.prog 116 #[.pointer (some ⟨b, 0, none⟩), .int .i64 400] wr fun e w1 => ∃ key, e = .returned (.string key) ∧
      Hid (Calls Try.prog 117 #[.pointer (some ⟨b, 0, none⟩)] (w1.alloc (.cells #[.string key, .string ⟨#[]⟩, .bool false] 48)) fun e w2 => ∃ gn, e = .returned (.bool gn) ∧ w2.cell? ⟨w1.heap.size, 2, none⟩ = some (.bool false) ∧ w2.frozen? ⟨w1.heap.size, 2, none⟩ = false ∧
        Hid (Calls Try.prog 116 #[.pointer (some ⟨b, 0, none⟩), .int .i64 4096] (w2.setCell ⟨w1.heap.size, 2, none⟩ (.bool gn)) fun e w3 => ∃ val, e = .returned (.string val) ∧ w3.cell? ⟨w1.heap.size, 1, none⟩ = some (.string ⟨#[]⟩) ∧ w3.frozen? ⟨w1.heap.size, 1, none⟩ = false ∧
          Hid (Calls Try.prog 111 #[.pointer (some ⟨b, 0, none⟩)] (w3.setCell ⟨w1.heap.size, 1, none⟩ (.string val)) fun e w4 =>
            (e = .returned (.int .i64 2) ∧ Hid (RdWsP w b R (.returned (.slice none 0 0)) w4)) ∨
            (e = .returned (.int .i64 0) ∧ (w4.cell? ⟨w1.heap.size, 0, none⟩ = some (.string key) ∧ w4.cell? ⟨w1.heap.size, 1, none⟩ = some (.string val) ∧ w4.cell? ⟨w1.heap.size, 2, none⟩ = some (.bool gn)) ∧ ∃ a' c' w5,
              (Builtin.append_ #[22, 22] 22 #[v, .slice (some ⟨w4.heap.size, 0, none⟩) 1 1]).run Try.prog (w4.alloc (.cells #[.string key, .string val, .bool gn] 48)) = .ok (.slice a' (k + 1) c') w5 ∧
              Hid (∃ pre2 st2, pre2.length = k + 1 ∧ finR pre2 (rdWs (n - (k + 1)) st2) = R ∧ RwI w b w5 (.slice a' (k + 1) c') pre2 st2)))))) := Lib.hid fun k pre st' v wr hk hp hf hI => by
    obtain ⟨m, hm⟩ : ∃ m, n - k = m + 1 := ⟨n - k - 1, by omega⟩
    have hm2 : n - (k + 1) = m := by omega
    rw [hm] at hf
    refine (round_w hI 22).mono ?_
    rintro e w1 ⟨key, rfl, h1⟩
    refine ⟨key, rfl, Lib.hid (h1.out.mono ?_)⟩
    rintro e w2 ⟨gn, rfl, h2, h3, h4⟩
    refine ⟨gn, rfl, h2, h3, Lib.hid (h4.out.mono ?_)⟩
    rintro e w3 ⟨val, rfl, h5, h6, h7⟩
    refine ⟨val, rfl, h5, h6, Lib.hid (h7.out.mono ?_)⟩
    rintro e w4 (⟨rfl, h8⟩ | ⟨rfl, h8, a', c', w5, h9, h10⟩)
    · refine .inl ⟨rfl, Lib.hid ?_⟩
      rw [rdWs_none pre m h8.out.1] at hf
      rw [← hf]
      exact ⟨none, 0, rfl, h8.out.2, ⟨World.ownsRow_nil w4 _ _ 3, fun u hu => by simp at hu⟩⟩
    · rw [hp] at h9 h10
      obtain ⟨⟨l, h11⟩, h12⟩ := h10.out
      refine .inr ⟨rfl, h8, a', c', w5, h9, Lib.hid ⟨pre ++ [rdW st'], rw3 st', by rw [List.length_append, hp]; rfl, ?_, h12⟩⟩
      rw [hm2, ← hf, rdWs_some pre m h11]
  have HF : Hid (∀ k pre st' a c wr, k = n → pre.length = k → finR pre (rdWs (n - k) st') = R → RwI w b wr (.slice a k c) pre st' → RdWsP w b R (.returned (.slice a k c)) wr) := Lib.hid fun k pre st' a c wr hk hp hf hI => by
    subst hk
    rw [Nat.sub_self, fin_end (fun e => List.eq_nil_of_length_eq_zero (hI.2.2.2.2 e))] at hf
    rw [← hf]
    refine ⟨a, c, by rw [hp], hI.2.1, ?_⟩
    have := hI.2.2.1
    show RowK _ _ _ _ (.slice a pre.length c) _ _
    rw [← hp] at this
    exact this
  obtain ⟨Q, hQ⟩ : ∃ Q, Q = RdWsP w b R := ⟨_, rfl⟩
  rw [← hQ] at HRD HF ⊢
  clear hQ hnum hlt0 hR2 hR hsl0 hn hs1 h hl hm
  go_enter Try.func69, Try.ntmps69
  go_wp2_with fail
  refine HNUM.out.mono ?_
  rintro e w1 ⟨rfl, H1⟩
  clear HNUM
  go_wp2_with fail
  go_loopw [5, 10] (fun v c wr => ∃ (k : Nat) (a : Option Addr) (c' : Nat), k ≤ n ∧ c = .int .i64 (k : Int) ∧ v = .slice a k c' ∧ Hid (∃ pre st', pre.length = k ∧ finR pre (rdWs (n - k) st') = R ∧ RwI w b wr (.slice a k c') pre st')) (fun _ c _ => n - (intOf c).toNat)
  case atStart => exact ⟨0, none, 0, Nat.zero_le _, rfl, rfl, Lib.hid ⟨[], s1, rfl, H1.out⟩⟩
  case round =>
    obtain ⟨k, a, c', hk, rfl, rfl, hst⟩ := hrel
    clear H1
    by_cases hlt : k < n
    · obtain ⟨pre, st', hp, hf, hI⟩ := hst.out
      have HC := Lib.hid (HRD.out k pre st' _ wr hlt hp hf hI)
      clear hp hf hI hst HRD HF
      go_wp2_with fail
      refine HC.out.mono ?_
      rintro e w2 ⟨key, rfl, HC2⟩
      clear HC
      go_wp2_with fail
      refine HC2.out.mono ?_
      rintro e w3 ⟨gn, rfl, x1, x2, HC3⟩
      clear HC2
      go_wp2_with fail
      refine HC3.out.mono ?_
      rintro e w4 ⟨val, rfl, y1, y2, HC4⟩
      clear HC3 x1 x2
      go_wp2_with fail
      refine HC4.out.mono ?_
      rintro e w5 (⟨rfl, HB⟩ | ⟨rfl, ⟨z0, z1, z2⟩, a2, c2, w6, happ, HN⟩)
      · clear HC4 y1 y2
        go_wp2
        first | exact HB.out | (go_ret; exact HB.out)
      · clear HC4 y1 y2
        go_wp2
        go_roundw
        · exact ⟨k + 1, a2, c2, by omega, by simp, rfl, HN⟩
        · simp [intOf]; omega
    · obtain ⟨pre, st', hp, hf, hI⟩ := hst.out
      have HFF := Lib.hid (HF.out k pre st' a c' wr (by omega) hp hf hI)
      clear hp hf hI hst HRD HF
      obtain rfl : n = k := by omega
      go_wp2
      first | exact HFF.out | (go_ret; exact HFF.out)

end Go.Proofs.Ytcebnoapgceodaa.sT
end

section
namespace Go.Proofs.Ytcebnoapgceodaa.sT
open Go.RowKit Go.Proofs.Ytcebnoapgceodaa.rdS

set_option linter.unusedVariables false
set_option linter.unusedSimpArgs false

def Few6 (st : RdSt) : Prop := ∀ l, st = some l → l.length ≤ 1000000
theorem few_num {st : RdSt} (h : Few6 st) (M : Nat) : Few6 (numS st M).2 := fun l e => by
  have := (numS_back (st := st) (M := M) (n := (numS st M).1) (r := l) (Prod.ext rfl e)).1
  have h3 := h _ this
  rw [List.length_append] at h3
  omega
theorem few_ws {st : RdSt} (h : Few6 st) (M : Nat) : Few6 (readWs st M).2 := fun l e => by
  have := (readWs_back (st := st) (M := M) (ws := (readWs st M).1) (r := l) (Prod.ext rfl e)).1
  have h3 := h _ this
  rw [List.length_append] at h3
  omega

def RdCP (w : World) (b : Nat) (c : CmM) (st2 : RdSt) (e : Ending) (w' : World) : Prop := ∃ a k, e = .returned (.agg #[.int .i64 c.seq, .int .i64 c.at_, .slice a c.ws.length k]) ∧ GS w b st2 w' ∧ RowK 48 3 w.heap.size w' (.slice a c.ws.length k) c.ws.length (c.ws.flatMap wrcells)

set_option maxHeartbeats 2000000 in
set_option maxRecDepth 100000 in
theorem readCommit_any (b : Nat) (st : RdSt) (hl : Few6 st) (w : World) (h : RS w b st) :
    Calls Try.prog 65 #[.pointer (some ⟨b, 0, none⟩)] w (RdCP w b (rdC st) (rc3 st)) := by
  obtain ⟨R, hR⟩ : ∃ R, R = rdC st := ⟨_, rfl⟩
  obtain ⟨st3, hst3⟩ : ∃ st3, st3 = rc3 st := ⟨_, rfl⟩
  have hb := h.lt
  have hba0 : Below w.heap.size w (w.alloc (.cells #[.int .i64 0, .int .i64 0, .slice none 0 0] 45)) := (Below.refl _ _).alloc (Nat.le_refl _) _
  have hp0 := Box.new w 45 #[.int .i64 0, .int .i64 0, .slice none 0 0]
  have HC : Hid (Calls Try.prog 68 #[.pointer (some ⟨b, 0, none⟩), .int .i64 1099511627776] (w.alloc (.cells #[.int .i64 0, .int .i64 0, .slice none 0 0] 45)) fun e w1 => ∃ s, e = .returned (.int .i64 s) ∧
      Hid (Calls Try.prog 68 #[.pointer (some ⟨b, 0, none⟩), .int .i64 1099511627776] (w1.alloc (.cells #[.int .i64 s, .int .i64 0, .slice none 0 0] 45)) fun e w2 => ∃ t, e = .returned (.int .i64 t) ∧ w2.cell? ⟨w1.heap.size, 1, none⟩ = some (.int .i64 0) ∧ w2.frozen? ⟨w1.heap.size, 1, none⟩ = false ∧
        Hid (Calls Try.prog 69 #[.pointer (some ⟨b, 0, none⟩), .int .i64 200] (w2.setCell ⟨w1.heap.size, 1, none⟩ (.int .i64 t)) fun e w3 => ∃ a k m, e = .returned (.slice a m k) ∧ w3.cell? ⟨w1.heap.size, 2, none⟩ = some (.slice none 0 0) ∧ w3.frozen? ⟨w1.heap.size, 2, none⟩ = false ∧
          ∃ w4, w3.setCell ⟨w1.heap.size, 2, none⟩ (.slice a m k) = w4 ∧ (w4.cell? ⟨w1.heap.size, 0, none⟩ = some (.int .i64 s) ∧ w4.cell? ⟨w1.heap.size, 1, none⟩ = some (.int .i64 t) ∧ w4.cell? ⟨w1.heap.size, 2, none⟩ = some (.slice a m k)) ∧
          ((w4.cell? ⟨w.heap.size, 0, none⟩ = some (.int .i64 0) ∧ w4.cell? ⟨w.heap.size, 1, none⟩ = some (.int .i64 0) ∧ w4.cell? ⟨w.heap.size, 2, none⟩ = some (.slice none 0 0)) ∧ (w4.frozen? ⟨w.heap.size, 0, none⟩ = false ∧ w4.frozen? ⟨w.heap.size, 1, none⟩ = false ∧ w4.frozen? ⟨w.heap.size, 2, none⟩ = false) ∧
            ((sets3 w4 w.heap.size (.int .i64 s) (.int .i64 t) (.slice a m k)).cell? ⟨w.heap.size, 0, none⟩ = some (.int .i64 s) ∧ (sets3 w4 w.heap.size (.int .i64 s) (.int .i64 t) (.slice a m k)).cell? ⟨w.heap.size, 1, none⟩ = some (.int .i64 t) ∧ (sets3 w4 w.heap.size (.int .i64 s) (.int .i64 t) (.slice a m k)).cell? ⟨w.heap.size, 2, none⟩ = some (.slice a m k))) ∧
          Hid (RdCP w b R st3 (.returned (.agg #[.int .i64 s, .int .i64 t, .slice a m k])) (sets3 w4 w.heap.size (.int .i64 s) (.int .i64 t) (.slice a m k)))))) := Lib.hid (by
    have g0 := (GS.refl h).below hba0
    refine (num_s b st 1099511627776 1099511627776 rfl (by omega) _ g0.1).mono ?_
    rintro e w1 ⟨rfl, g1⟩
    have hz1 := g1.2.size
    rw [World.size_alloc] at hz1
    refine ⟨_, rfl, Lib.hid ?_⟩
    obtain ⟨s, hs⟩ : ∃ s : Int, s = ((numS st 1099511627776).1 : Int) := ⟨_, rfl⟩
    rw [← hs]
    have hba1 : Below w1.heap.size w1 (w1.alloc (.cells #[.int .i64 s, .int .i64 0, .slice none 0 0] 45)) := (Below.refl _ _).alloc (Nat.le_refl _) _
    have hq1 := Box.new w1 45 #[.int .i64 s, .int .i64 0, .slice none 0 0]
    have g1a := g1.below hba1
    have hp1 : Box w1 w.heap.size 45 #[.int .i64 0, .int .i64 0, .slice none 0 0] := (g1.other hp0.lt (by omega)).trans hp0
    refine (num_s b (rc1 st) 1099511627776 1099511627776 rfl (by omega) _ g1a.1).mono ?_
    rintro e w2 ⟨rfl, g2⟩
    have hz2 := g2.2.size
    rw [World.size_alloc] at hz2
    have hq2 : Box w2 w1.heap.size 45 #[.int .i64 s, .int .i64 0, .slice none 0 0] := (g2.other hq1.lt (by omega)).trans hq1
    have hp2 : Box w2 w.heap.size 45 #[.int .i64 0, .int .i64 0, .slice none 0 0] := (g2.other (hp1.alloc _).lt (by omega)).trans (hp1.alloc _)
    refine ⟨_, rfl, hq2.cell 1, hq2.free 1, Lib.hid ?_⟩
    obtain ⟨t, ht⟩ : ∃ t : Int, t = ((numS (rc1 st) 1099511627776).1 : Int) := ⟨_, rfl⟩
    rw [← ht]
    have hq3 : Box (w2.setCell ⟨w1.heap.size, 1, none⟩ (.int .i64 t)) w1.heap.size 45 #[.int .i64 s, .int .i64 t, .slice none 0 0] := hq2.setSame 1 _
    have hp3 : Box (w2.setCell ⟨w1.heap.size, 1, none⟩ (.int .i64 t)) w.heap.size 45 #[.int .i64 0, .int .i64 0, .slice none 0 0] := hp2.setFar (by show w.heap.size ≠ w1.heap.size; omega) _
    have hr3 : RS (w2.setCell ⟨w1.heap.size, 1, none⟩ (.int .i64 t)) b (rc2 st) := g2.1.keep (Below.heap_setCell w2 ⟨w1.heap.size, 1, none⟩ _ b (by show b ≠ w1.heap.size; omega))
    have hs3 : (w2.setCell ⟨w1.heap.size, 1, none⟩ (.int .i64 t)).heap.size = w2.heap.size := by simp
    refine (readWs_any b (rc2 st) (few_num (few_num hl _) _) 200 200 rfl (by omega) _ hr3).mono ?_
    rintro e w3 ⟨a, k, rfl, g3, hrow⟩
    rw [hs3] at hrow
    have hq4 : Box w3 w1.heap.size 45 #[.int .i64 s, .int .i64 t, .slice none 0 0] := (g3.other hq3.lt (by omega)).trans hq3
    have hp4 : Box w3 w.heap.size 45 #[.int .i64 0, .int .i64 0, .slice none 0 0] := (g3.other hp3.lt (by omega)).trans hp3
    obtain ⟨m, hm⟩ : ∃ m, m = (readWs (rc2 st) 200).1.length := ⟨_, rfl⟩
    rw [← hm] at hrow ⊢
    have hq5 : Box (w3.setCell ⟨w1.heap.size, 2, none⟩ (.slice a m k)) w1.heap.size 45 #[.int .i64 s, .int .i64 t, .slice a m k] := hq4.setSame 2 _
    have hp5 : Box (w3.setCell ⟨w1.heap.size, 2, none⟩ (.slice a m k)) w.heap.size 45 #[.int .i64 0, .int .i64 0, .slice none 0 0] := hp4.setFar (by show w.heap.size ≠ w1.heap.size; omega) _
    refine ⟨a, k, m, rfl, hq4.cell 2, hq4.free 2, _, rfl, ⟨hq5.cell 0, hq5.cell 1, hq5.cell 2⟩, sets3_cells hp5 _ _ _, Lib.hid ?_⟩
    have hRv : R = ⟨s, t, (readWs (rc2 st) 200).1⟩ := by rw [hR]; unfold rdC; rw [hs, ht]
    have G2 : w.grownBy w2 (some b) := grown_trans (grown_trans (grown_trans (grown_alloc w _ (some b)) g1.2 (.inl rfl)) (grown_alloc w1 _ (some b)) (.inl rfl)) g2.2 (.inl rfl)
    have G3 : w.grownBy w3 (some b) := grown_trans (grown_set G2 (by omega) 1 (.int .i64 t)) g3.2 (.inl rfl)
    have G5 : w.grownBy (w3.setCell ⟨w1.heap.size, 2, none⟩ (.slice a m k)) (some b) := grown_set G3 (by omega) 2 (.slice a m k)
    have G6 : w.grownBy (sets3 (w3.setCell ⟨w1.heap.size, 2, none⟩ (.slice a m k)) w.heap.size (.int .i64 s) (.int .i64 t) (.slice a m k)) (some b) := grown_set (grown_set (grown_set G5 (Nat.le_refl _) 0 _) (Nat.le_refl _) 1 _) (Nat.le_refl _) 2 _
    have hfar : ∀ q, q ≠ w.heap.size → q ≠ w1.heap.size → (sets3 (w3.setCell ⟨w1.heap.size, 2, none⟩ (.slice a m k)) w.heap.size (.int .i64 s) (.int .i64 t) (.slice a m k)).heap[q]? = w3.heap[q]? := fun q h1 h2 => (sets3_far _ _ _ _ _ q h1).trans (Below.heap_setCell w3 ⟨w1.heap.size, 2, none⟩ _ q h2)
    rw [hRv, hst3]
    refine ⟨a, k, by rw [hm], ⟨g3.1.keep (hfar b (by omega) (by omega)), G6⟩, ?_⟩
    show RowK _ _ _ _ (.slice a (readWs (rc2 st) 200).1.length k) (readWs (rc2 st) 200).1.length _
    rw [← hm]
    exact hrow.keep fun q hq => ⟨hfar q (by have := (hrow.lt q hq).1; omega) (by have := (hrow.lt q hq).1; omega), by have := (hrow.lt q hq).1; omega⟩)
  obtain ⟨Q, hQ⟩ : ∃ Q, Q = RdCP w b R st3 := ⟨_, rfl⟩
  rw [← hR, ← hst3, ← hQ]
  rw [← hQ] at HC
  clear hQ h hl hb hba0 hp0 hR hst3
  go_enter Try.func65, Try.ntmps65
  go_wp2_with fail
  refine HC.out.mono ?_
  rintro e w1 ⟨s, rfl, HC2⟩
  clear HC
  go_wp2_with fail
  refine HC2.out.mono ?_
  rintro e w2 ⟨t, rfl, x1, x2, HC3⟩
  clear HC2
  go_wp2_with fail
  refine HC3.out.mono ?_
  rintro e w3 ⟨a, k, m, rfl, y1, y2, w4, hw4, ⟨d0, d1, d2⟩, ⟨⟨c0, c1, c2⟩, ⟨f0, f1, f2⟩, m0, m1, m2⟩, HF⟩
  clear HC3 x1 x2
  subst hw4
  go_wp2
  exact bodyPost_ret (v := .agg #[.int .i64 s, .int .i64 t, .slice a m k]) (by simp [results, Try.results65, go_sem, m0, m1, m2]) rfl HF.out

end Go.Proofs.Ytcebnoapgceodaa.sT
end

section
namespace Go.Proofs.Ytcebnoapgceodaa.sT
open Go.RowKit Go.Proofs.Ytcebnoapgceodaa.rdS

set_option linter.unusedVariables false
set_option linter.unusedSimpArgs false

/-- what stands while commits are read -/
def CmRI (w : World) (b : Nat) (wr : World) (v : Value) (pre : List CmM) (st : RdSt) : Prop := b < w.heap.size ∧ GS w b st wr ∧ CmsOwn w.heap.size wr v pre ∧ (∀ q, v.ownBlock = some q → w.heap.size ≤ q) ∧ SL pre.length st

theorem cmsOwn_nil (n0 : Nat) (W : World) : CmsOwn n0 W (.slice none 0 0) [] := ⟨[], ⟨World.ownsRow_nil W _ _ 3, fun u hu => by simp [cmrow] at hu⟩, trivial⟩
theorem CmsOwn.lt {n0 : Nat} {W : World} {v : Value} {cs : List CmM} (h : CmsOwn n0 W v cs) : ∀ q, v.ownBlock = some q → n0 ≤ q := by
  obtain ⟨wvs, h1, _⟩ := h
  exact fun q hq => (h1.lt q hq).1

theorem round_c {w wr : World} {b : Nat} {v : Value} {pre : List CmM} {st : RdSt} (h : CmRI w b wr v pre st) (ty : TypeId) :
    Calls Try.prog 65 #[.pointer (some ⟨b, 0, none⟩)] wr fun e w1 => ∃ s t a m k, e = .returned (.agg #[.int .i64 s, .int .i64 t, .slice a m k]) ∧
      Hid (Calls Try.prog 111 #[.pointer (some ⟨b, 0, none⟩)] (w1.alloc (.cells #[.int .i64 s, .int .i64 t, .slice a m k] 45)) fun e w4 =>
            (e = .returned (.int .i64 2) ∧ Hid (rc3 st = none ∧ GS w b none w4)) ∨
            (e = .returned (.int .i64 0) ∧ (w4.cell? ⟨w1.heap.size, 0, none⟩ = some (.int .i64 s) ∧ w4.cell? ⟨w1.heap.size, 1, none⟩ = some (.int .i64 t) ∧ w4.cell? ⟨w1.heap.size, 2, none⟩ = some (.slice a m k)) ∧ ∃ a' c' w5,
              (Builtin.append_ #[27, 27] ty #[v, .slice (some ⟨w4.heap.size, 0, none⟩) 1 1]).run Try.prog (w4.alloc (.cells #[.int .i64 s, .int .i64 t, .slice a m k] 45)) = .ok (.slice a' (pre.length + 1) c') w5 ∧
              Hid ((∃ l, rc3 st = some l) ∧ CmRI w b w5 (.slice a' (pre.length + 1) c') (pre ++ [rdC st]) (rc3 st)))) := by
  obtain ⟨hb, hg, hown, hvq, hsl⟩ := h
  have hfew : Few6 st := fun l e => by have := hsl.1 l e; omega
  refine (readCommit_any b st hfew wr hg.1).mono ?_
  rintro e w1 ⟨a, k, rfl, g1, hrow⟩
  obtain ⟨c, hc⟩ : ∃ c, c = rdC st := ⟨_, rfl⟩
  rw [← hc] at hrow ⊢
  have hz1 := g1.2.size
  have hzr := hg.2.size
  have hba : Below w1.heap.size w1 (w1.alloc (.cells #[.int .i64 c.seq, .int .i64 c.at_, .slice a c.ws.length k] 45)) := (Below.refl _ _).alloc (Nat.le_refl _) _
  have hbx := Box.new w1 45 #[.int .i64 c.seq, .int .i64 c.at_, .slice a c.ws.length k]
  have g1a := g1.below hba
  refine ⟨c.seq, c.at_, a, c.ws.length, k, rfl, Lib.hid ?_⟩
  have G : w.grownBy (w1.alloc (.cells #[.int .i64 c.seq, .int .i64 c.at_, .slice a c.ws.length k] 45)) (some b) := grown_trans hg.2 g1a.2 (.inl rfl)
  obtain ⟨w5, hw5⟩ : ∃ w5, w5 = w1.alloc (.cells #[.int .i64 c.seq, .int .i64 c.at_, .slice a c.ws.length k] 45) := ⟨_, rfl⟩
  have hown5 : CmsOwn w.heap.size w5 v pre := hown.same fun q hq hlt => by rw [hw5]; exact g1a.2.block q hlt fun e => by injection e with e; omega
  have hrow5 : RowK 48 3 w.heap.size w5 (.slice a c.ws.length k) c.ws.length (c.ws.flatMap wrcells) := (hw5 ▸ hrow.below hba).keep fun q hq => ⟨rfl, by have := (hrow.lt q hq).1; omega⟩
  have hr5 := g1a.1
  rw [← hw5] at hbx hr5 G ⊢
  cases h3 : rc3 st with
  | none =>
    rw [h3] at hr5
    refine (err_bad b _ w5 hr5).mono ?_
    rintro e w4 ⟨rfl, rfl⟩
    exact .inl ⟨rfl, Lib.hid ⟨rfl, hr5, G⟩⟩
  | some l =>
    rw [h3] at hr5
    refine (err_good b _ w5 hr5).mono ?_
    rintro e w4 ⟨rfl, rfl⟩
    obtain ⟨hback, _⟩ := rdC_back h3
    have hsl2 := hsl.1 _ hback
    rw [List.length_append] at hsl2
    have hp := octCm_pos (rdC st)
    have hba2 : Below w5.heap.size w5 (w5.alloc (.cells #[.int .i64 c.seq, .int .i64 c.at_, .slice a c.ws.length k] 45)) := (Below.refl _ _).alloc (Nat.le_refl _) _
    have hz5 := G.size
    have hz6 := hba2.size
    obtain ⟨a', c', w6, hr6, ho6, hg6⟩ := (hown5.below hba2).app c (hrow5.below hba2) (heap_alloc_new w5 _) (by omega) (by omega) ty
    have hG6 : w5.grownBy w6 v.ownBlock := grown_trans (grown_alloc w5 _ _) hg6 (.inl rfl)
    refine .inr ⟨rfl, ⟨hbx.cell 0, hbx.cell 1, hbx.cell 2⟩, a', c', w6, hr6, Lib.hid ⟨⟨l, rfl⟩, hb, ⟨?_, ?_⟩, ho6, ho6.lt, ?_, ?_⟩⟩
    · exact RS.keep (st := some l) hr5 (hG6.block b (RS.lt (st := some l) hr5) fun e => by have := hvq b e.symm; omega)
    · exact grown_trans G hG6 (.inr fun k e => hvq k e)
    · intro l' e
      injection e with e
      subst e
      rw [List.length_append]
      show 3 * (pre.length + 1) + _ ≤ _
      omega
    · exact fun e => by cases e

theorem rdCs_fin (n : Nat) (st : RdSt) : finR [] (rdCs n st) = rdCs n st := by
  cases n with
  | zero => unfold rdCs; exact finR_fin _ _ _
  | succ m =>
    unfold rdCs
    split
    · rfl
    · exact finR_fin _ _ _
theorem finC_end {pre : List CmM} {st : RdSt} (h : st = none → pre = []) : finR pre (rdCs 0 st) = (pre, st) := by
  unfold rdCs
  rw [finR_fin]
  cases st with
  | none => rw [h rfl]; rfl
  | some r => simp [finR]

def RdCsP (w : World) (b : Nat) (R : List CmM × RdSt) (e : Ending) (w' : World) : Prop := ∃ a c, e = .returned (.slice a R.1.length c) ∧ GS w b R.2 w' ∧ CmsOwn w.heap.size w' (.slice a R.1.length c) R.1

attribute [-go_sem] Builtin.append_
set_option maxHeartbeats 2000000 in
set_option maxRecDepth 100000 in
theorem readCs_any (b : Nat) (st : RdSt) (hl : Few6 st) (w : World) (h : RS w b st) :
    Calls Try.prog 70 #[.pointer (some ⟨b, 0, none⟩)] w (RdCsP w b (readCs st)) := by
  have hnum := num_s b st 1099511627776 1099511627776 rfl (by omega) w h
  have hlt0 := h.lt
  have hle := numS_le st 1099511627776
  obtain ⟨R, hR⟩ : ∃ R, R = readCs st := ⟨_, rfl⟩
  have hR2 := hR
  unfold readCs at hR2
  rw [← hR]
  have hsl0 : SL 0 (numS st 1099511627776).2 := ⟨fun l e => by have := few_num hl 1099511627776 l e; omega, fun _ => rfl⟩
  obtain ⟨n, hn⟩ : ∃ n, n = (numS st 1099511627776).1 := ⟨_, rfl⟩
  obtain ⟨s1, hs1⟩ : ∃ x, x = (numS st 1099511627776).2 := ⟨_, rfl⟩
  rw [← hn, ← hs1] at hnum hR2
  rw [← hn] at hle
  rw [← hs1] at hsl0
  have HNUM : Hid (Calls Try.prog 68 #[.pointer (some ⟨b, 0, none⟩), .int .i64 1099511627776] w fun e w' => e = .returned (.int .i64 (n : Int)) ∧ Hid (finR [] (rdCs n s1) = R ∧ CmRI w b w' (.slice none 0 0) [] s1)) := Lib.hid (hnum.mono fun e w' ⟨h1, h2⟩ => ⟨h1, Lib.hid ⟨(rdCs_fin n s1).trans hR2.symm, hlt0, h2, cmsOwn_nil _ _, fun q hq => (by cases hq), hsl0⟩⟩)
  have HRD : Hid (∀ k pre st' v wr, k < n → pre.length = k → finR pre (rdCs (n - k) st') = R → CmRI w b wr v pre st' →
      Calls Try.prog 65 #[.pointer (some ⟨b, 0, none⟩)] wr fun e w1 => ∃ s t a m k', e = .returned (.agg #[.int .i64 s, .int .i64 t, .slice a m k']) ∧
      Hid (Calls Try.prog 111 #[.pointer (some ⟨b, 0, none⟩)] (w1.alloc (.cells #[.int .i64 s, .int .i64 t, .slice a m k'] 45)) fun e w4 =>
            (e = .returned (.int .i64 2) ∧ Hid (RdCsP w b R (.returned (.slice none 0 0)) w4)) ∨
            (e = .returned (.int .i64 0) ∧ (w4.cell? ⟨w1.heap.size, 0, none⟩ = some (.int .i64 s) ∧ w4.cell? ⟨w1.heap.size, 1, none⟩ = some (.int .i64 t) ∧ w4.cell? ⟨w1.heap.size, 2, none⟩ = some (.slice a m k')) ∧ ∃ a' c' w5,
              (Builtin.append_ #[27, 27] 27 #[v, .slice (some ⟨w4.heap.size, 0, none⟩) 1 1]).run Try.prog (w4.alloc (.cells #[.int .i64 s, .int .i64 t, .slice a m k'] 45)) = .ok (.slice a' (k + 1) c') w5 ∧
              Hid (∃ pre2 st2, pre2.length = k + 1 ∧ finR pre2 (rdCs (n - (k + 1)) st2) = R ∧ CmRI w b w5 (.slice a' (k + 1) c') pre2 st2)))) := Lib.hid fun k pre st' v wr hk hp hf hI => by
    obtain ⟨m, hm⟩ : ∃ m, n - k = m + 1 := ⟨n - k - 1, by omega⟩
    have hm2 : n - (k + 1) = m := by omega
    rw [hm] at hf
    refine (round_c hI 27).mono ?_
    rintro e w1 ⟨s, t, a, m', k', rfl, h1⟩
    refine ⟨s, t, a, m', k', rfl, Lib.hid (h1.out.mono ?_)⟩
    rintro e w4 (⟨rfl, h8⟩ | ⟨rfl, h8, a', c', w5, h9, h10⟩)
    · refine .inl ⟨rfl, Lib.hid ?_⟩
      rw [rdCs_none pre m h8.out.1] at hf
      rw [← hf]
      exact ⟨none, 0, rfl, h8.out.2, cmsOwn_nil _ _⟩
    · rw [hp] at h9 h10
      obtain ⟨⟨l, h11⟩, h12⟩ := h10.out
      refine .inr ⟨rfl, h8, a', c', w5, h9, Lib.hid ⟨pre ++ [rdC st'], rc3 st', by rw [List.length_append, hp]; rfl, ?_, h12⟩⟩
      rw [hm2, ← hf, rdCs_some pre m h11]
  have HF : Hid (∀ k pre st' a c wr, k = n → pre.length = k → finR pre (rdCs (n - k) st') = R → CmRI w b wr (.slice a k c) pre st' → RdCsP w b R (.returned (.slice a k c)) wr) := Lib.hid fun k pre st' a c wr hk hp hf hI => by
    subst hk
    rw [Nat.sub_self, finC_end (fun e => List.eq_nil_of_length_eq_zero (hI.2.2.2.2.2 e))] at hf
    rw [← hf]
    refine ⟨a, c, by rw [hp], hI.2.1, ?_⟩
    have := hI.2.2.1
    show CmsOwn _ _ (.slice a pre.length c) _
    rw [← hp] at this
    exact this
  obtain ⟨Q, hQ⟩ : ∃ Q, Q = RdCsP w b R := ⟨_, rfl⟩
  rw [← hQ] at HRD HF ⊢
  clear hQ hnum hlt0 hR2 hR hsl0 hn hs1 h hl
  go_enter Try.func70, Try.ntmps70
  go_wp2_with fail
  refine HNUM.out.mono ?_
  rintro e w1 ⟨rfl, H1⟩
  clear HNUM
  go_wp2_with fail
  go_loopw [3, 7] (fun v c wr => ∃ (k : Nat) (a : Option Addr) (c' : Nat), k ≤ n ∧ c = .int .i64 (k : Int) ∧ v = .slice a k c' ∧ Hid (∃ pre st', pre.length = k ∧ finR pre (rdCs (n - k) st') = R ∧ CmRI w b wr (.slice a k c') pre st')) (fun _ c _ => n - (intOf c).toNat)
  case atStart => exact ⟨0, none, 0, Nat.zero_le _, rfl, rfl, Lib.hid ⟨[], s1, rfl, H1.out⟩⟩
  case round =>
    obtain ⟨k, a, c', hk, rfl, rfl, hst⟩ := hrel
    clear H1
    by_cases hlt : k < n
    · obtain ⟨pre, st', hp, hf, hI⟩ := hst.out
      have HC := Lib.hid (HRD.out k pre st' _ wr hlt hp hf hI)
      clear hp hf hI hst HRD HF
      go_wp2_with fail
      refine HC.out.mono ?_
      rintro e w2 ⟨s, t, a1, m, k', rfl, HC2⟩
      clear HC
      go_wp2_with fail
      refine HC2.out.mono ?_
      rintro e w5 (⟨rfl, HB⟩ | ⟨rfl, ⟨z0, z1, z2⟩, a2, c2, w6, happ, HN⟩)
      · clear HC2
        go_wp2
        first | exact HB.out | (go_ret; exact HB.out)
      · clear HC2
        go_wp2
        go_roundw
        · exact ⟨k + 1, a2, c2, by omega, by simp, rfl, HN⟩
        · simp [intOf]; omega
    · obtain ⟨pre, st', hp, hf, hI⟩ := hst.out
      have HFF := Lib.hid (HF.out k pre st' a c' wr (by omega) hp hf hI)
      clear hp hf hI hst HRD HF
      obtain rfl : n = k := by omega
      go_wp2
      first | exact HFF.out | (go_ret; exact HFF.out)

end Go.Proofs.Ytcebnoapgceodaa.sT
end

section
namespace Go.Proofs.Ytcebnoapgceodaa.sT
open Go.RowKit Go.Proofs.Ytcebnoapgceodaa.rdS

set_option linter.unusedVariables false
set_option linter.unusedSimpArgs false

theorem endS_cases (st : RdSt) : (endS st = 0 ∧ st = some []) ∨ (endS st = 2 ∧ st ≠ some []) := by
  match st with
  | none => exact .inr ⟨rfl, by simp⟩
  | some [] => exact .inl ⟨rfl, rfl⟩
  | some (c :: r) => exact .inr ⟨rfl, by simp⟩

/-- three cells of a box, free, and turned -/
def P3 (w : World) (g : Nat) (a b c x y z : Value) : Prop := (w.cell? ⟨g, 0, none⟩ = some a ∧ w.cell? ⟨g, 1, none⟩ = some b ∧ w.cell? ⟨g, 2, none⟩ = some c) ∧ (w.frozen? ⟨g, 0, none⟩ = false ∧ w.frozen? ⟨g, 1, none⟩ = false ∧ w.frozen? ⟨g, 2, none⟩ = false) ∧
    ((sets3 w g x y z).cell? ⟨g, 0, none⟩ = some x ∧ (sets3 w g x y z).cell? ⟨g, 1, none⟩ = some y ∧ (sets3 w g x y z).cell? ⟨g, 2, none⟩ = some z)
def Q3 (w : World) (g : Nat) (x y z : Value) : Prop := w.cell? ⟨g, 0, none⟩ = some x ∧ w.cell? ⟨g, 1, none⟩ = some y ∧ w.cell? ⟨g, 2, none⟩ = some z

def RcdP (w : World) (s : ByteArray) (e : Ending) (w' : World) : Prop := Below w.heap.size w w' ∧
  (e = .returned (.tuple #[.agg #[.int .i64 0, .int .i64 0, .slice none 0 0], .int .i64 2]) ∨
   ∃ (m n : Nat) (ws : List Wr) (a : Option Addr) (k : Nat), e = .returned (.tuple #[.agg #[.int .i64 (m : Int), .int .i64 (n : Int), .slice a ws.length k], .int .i64 0]) ∧ rightCm (m : Int) (n : Int) ws = true ∧ s.data.toList = octC m n ws ∧ WrsIs w' a ws)

set_option maxHeartbeats 2000000 in
set_option maxRecDepth 100000 in
theorem readC_any (s : ByteArray) (hs : s.size ≤ 1000000) (w : World) :
    Calls Try.prog 29 #[.string s] w (RcdP w s) := by
  obtain ⟨Q, hQ⟩ : ∃ Q, Q = RcdP w s := ⟨_, rfl⟩
  have hfew : Few6 (some s.data.toList) := fun l e => by
    have : s.data.toList.length = s.size := by rw [Array.length_toList]; rfl
    injection e with e
    rw [← e]; omega
  have hba0 : Below w.heap.size w (w.alloc (.cells #[.int .i64 0, .int .i64 0, .slice none 0 0] 45)) := (Below.refl _ _).alloc (Nat.le_refl _) _
  have hp0 := Box.new w 45 #[.int .i64 0, .int .i64 0, .slice none 0 0]
  have HC : Hid (Calls Try.prog 64 #[.string s] (w.alloc (.cells #[.int .i64 0, .int .i64 0, .slice none 0 0] 45)) fun e w1 => ∃ b, e = .returned (.pointer (some ⟨b, 0, none⟩)) ∧
      Hid (Calls Try.prog 65 #[.pointer (some ⟨b, 0, none⟩)] w1 fun e w2 => ∃ sq at_ a m k, e = .returned (.agg #[.int .i64 sq, .int .i64 at_, .slice a m k]) ∧
        Hid (Calls Try.prog 66 #[.pointer (some ⟨b, 0, none⟩)] (w2.alloc (.cells #[.int .i64 sq, .int .i64 at_, .slice a m k] 45)) fun e w3 =>
          (e = .returned (.int .i64 2) ∧ Hid (P3 w3 w.heap.size (.int .i64 0) (.int .i64 0) (.slice none 0 0) (.int .i64 0) (.int .i64 0) (.slice none 0 0) ∧ Q (.returned (.tuple #[.agg #[.int .i64 0, .int .i64 0, .slice none 0 0], .int .i64 2])) (sets3 w3 w.heap.size (.int .i64 0) (.int .i64 0) (.slice none 0 0)))) ∨
          (e = .returned (.int .i64 0) ∧ Q3 w3 w2.heap.size (.int .i64 sq) (.int .i64 at_) (.slice a m k) ∧
            Hid (Calls Try.prog 67 #[.agg #[.int .i64 sq, .int .i64 at_, .slice a m k]] w3 fun e w4 =>
              (e = .returned (.bool false) ∧ Hid (P3 w4 w.heap.size (.int .i64 0) (.int .i64 0) (.slice none 0 0) (.int .i64 0) (.int .i64 0) (.slice none 0 0) ∧ Q (.returned (.tuple #[.agg #[.int .i64 0, .int .i64 0, .slice none 0 0], .int .i64 2])) (sets3 w4 w.heap.size (.int .i64 0) (.int .i64 0) (.slice none 0 0)))) ∨
              (e = .returned (.bool true) ∧ Hid (Q3 w4 w2.heap.size (.int .i64 sq) (.int .i64 at_) (.slice a m k) ∧ P3 w4 w.heap.size (.int .i64 0) (.int .i64 0) (.slice none 0 0) (.int .i64 sq) (.int .i64 at_) (.slice a m k) ∧ Q (.returned (.tuple #[.agg #[.int .i64 sq, .int .i64 at_, .slice a m k], .int .i64 0])) (sets3 w4 w.heap.size (.int .i64 sq) (.int .i64 at_) (.slice a m k))))))))) := Lib.hid (by
    refine (read_any s _).mono ?_
    rintro e w1 ⟨rfl, hr, hb1⟩
    obtain ⟨b, hb⟩ : ∃ b, b = (w.alloc (.cells #[.int .i64 0, .int .i64 0, .slice none 0 0] 45)).heap.size := ⟨_, rfl⟩
    rw [← hb] at hr ⊢
    have hbz : b = w.heap.size + 1 := by rw [hb]; simp
    have hp1 : Box w1 w.heap.size 45 #[.int .i64 0, .int .i64 0, .slice none 0 0] := (hb1.block _ hp0.lt).trans hp0
    have hbel1 : Below w.heap.size w w1 := hba0.trans (hb1.mono hba0.size)
    have hr1 : RS w1 b (some s.data.toList) := by
      show Rd w1 b ⟨s.data.toList.toArray⟩ false
      simpa using hr
    have hblt := hr1.lt
    refine ⟨b, rfl, Lib.hid ((readCommit_any b _ hfew w1 hr1).mono ?_)⟩
    rintro e w2 ⟨a, k, rfl, g2, hrow⟩
    obtain ⟨c, hc⟩ : ∃ c, c = rdC (some s.data.toList) := ⟨_, rfl⟩
    rw [← hc] at hrow ⊢
    have hz2 := g2.2.size
    have hbel2 : Below w.heap.size w w2 := hbel1.grown g2.2 hbel1.size fun q e => by injection e with e; omega
    have hp2 : Box w2 w.heap.size 45 #[.int .i64 0, .int .i64 0, .slice none 0 0] := (g2.other hp1.lt (by omega)).trans hp1
    refine ⟨c.seq, c.at_, a, c.ws.length, k, rfl, Lib.hid ?_⟩
    have hba3 : Below w2.heap.size w2 (w2.alloc (.cells #[.int .i64 c.seq, .int .i64 c.at_, .slice a c.ws.length k] 45)) := (Below.refl _ _).alloc (Nat.le_refl _) _
    have hq3 := Box.new w2 45 #[.int .i64 c.seq, .int .i64 c.at_, .slice a c.ws.length k]
    have hr3 := g2.1.keep (hba3.block b g2.1.lt)
    have hp3 := hp2.alloc (.cells #[.int .i64 c.seq, .int .i64 c.at_, .slice a c.ws.length k] 45)
    have hrow3 := hrow.below hba3
    have hbel3 := hbel2.trans (hba3.mono hbel2.size)
    obtain ⟨w3, hw3⟩ : ∃ w3, w3 = w2.alloc (.cells #[.int .i64 c.seq, .int .i64 c.at_, .slice a c.ws.length k] 45) := ⟨_, rfl⟩
    rw [← hw3] at hr3 hp3 hrow3 hbel3 hq3 ⊢
    refine (end_s b _ w3 hr3).mono ?_
    rintro e w3' ⟨rfl, rfl⟩
    rcases endS_cases (rc3 (some s.data.toList)) with ⟨e0, e1⟩ | ⟨e0, _⟩
    · rw [e0]
      obtain ⟨hback, hs0, ht0, hw2, _⟩ := rdC_back e1
      rw [← hc] at hback hs0 ht0 hw2
      refine .inr ⟨rfl, ⟨hq3.cell 0, hq3.cell 1, hq3.cell 2⟩, Lib.hid ?_⟩
      have hws3 : WrsIs w3 a c.ws := wrs_at_row hrow3
      refine (recRight_any (cap := k) hws3 rfl (by omega) c.seq c.at_).mono ?_
      rintro e w4 ⟨rfl, hb4⟩
      have hp4 : Box w4 w.heap.size 45 #[.int .i64 0, .int .i64 0, .slice none 0 0] := (hb4.block _ hp3.lt).trans hp3
      have hq4 : Box w4 w2.heap.size 45 #[.int .i64 c.seq, .int .i64 c.at_, .slice a c.ws.length k] := (hb4.block _ hq3.lt).trans hq3
      have hbel4 := hbel3.trans (hb4.mono hbel3.size)
      cases hrt : rightCm c.seq c.at_ c.ws with
      | false =>
        refine .inl ⟨rfl, Lib.hid ⟨sets3_cells hp4 _ _ _, ?_⟩⟩
        rw [hQ]
        exact ⟨sets3_below hbel4 _ _ _ _ (Nat.le_refl _), .inl rfl⟩
      | true =>
        refine .inr ⟨rfl, Lib.hid ⟨⟨hq4.cell 0, hq4.cell 1, hq4.cell 2⟩, sets3_cells hp4 _ _ _, ?_⟩⟩
        rw [hQ]
        obtain ⟨m, n, em, en, _⟩ := rightCm_of hrt
        rw [em, en] at hrt ⊢
        refine ⟨sets3_below hbel4 _ _ _ _ (Nat.le_refl _), .inr ⟨m, n, c.ws, a, k, rfl, hrt, ?_, ?_⟩⟩
        · injection hback with hback
          rw [hback, List.append_nil]
          unfold octCm
          rw [em, en]
          simp
        · exact wrs_at_row ((hrow3.below hb4).keep fun q hq => ⟨sets3_far _ _ _ _ _ q (by have := (hrow.lt q hq).1; omega), (hrow.lt q hq).1⟩)
    · rw [e0]
      refine .inl ⟨rfl, Lib.hid ⟨sets3_cells hp3 _ _ _, ?_⟩⟩
      rw [hQ]
      exact ⟨sets3_below hbel3 _ _ _ _ (Nat.le_refl _), .inl rfl⟩)
  rw [← hQ]
  clear hQ hfew hba0 hp0 hs
  go_enter Try.func29, Try.ntmps29
  go_wp2_with fail
  refine HC.out.mono ?_
  rintro e w1 ⟨b, rfl, HC2⟩
  clear HC
  go_wp2_with fail
  refine HC2.out.mono ?_
  rintro e w2 ⟨sq, at_, a, m, k, rfl, HC3⟩
  clear HC2
  go_wp2_with fail
  refine HC3.out.mono ?_
  rintro e w3 (⟨rfl, HB⟩ | ⟨rfl, ⟨q0, q1, q2⟩, HC4⟩)
  · obtain ⟨⟨⟨c0, c1, c2⟩, ⟨f0, f1, f2⟩, m0, m1, m2⟩, HF⟩ := HB.out
    have HFF := Lib.hid HF
    clear HF HB HC3
    go_wp2
    exact bodyPost_ret (v := .tuple #[.agg #[.int .i64 0, .int .i64 0, .slice none 0 0], .int .i64 2]) (by simp [results, Try.results29, go_sem, m0, m1, m2]) rfl HFF.out
  · clear HC3
    go_wp2_with fail
    refine HC4.out.mono ?_
    rintro e w4 (⟨rfl, HB⟩ | ⟨rfl, HB⟩)
    · obtain ⟨⟨⟨c0, c1, c2⟩, ⟨f0, f1, f2⟩, m0, m1, m2⟩, HF⟩ := HB.out
      have HFF := Lib.hid HF
      clear HF HB HC4 q0 q1 q2
      go_wp2
      exact bodyPost_ret (v := .tuple #[.agg #[.int .i64 0, .int .i64 0, .slice none 0 0], .int .i64 2]) (by simp [results, Try.results29, go_sem, m0, m1, m2]) rfl HFF.out
    · obtain ⟨⟨x0, x1, x2⟩, ⟨⟨c0, c1, c2⟩, ⟨f0, f1, f2⟩, m0, m1, m2⟩, HF⟩ := HB.out
      have HFF := Lib.hid HF
      clear HF HB HC4 q0 q1 q2
      go_wp2
      exact bodyPost_ret (v := .tuple #[.agg #[.int .i64 sq, .int .i64 at_, .slice a m k], .int .i64 0]) (by simp [results, Try.results29, go_sem, m0, m1, m2]) rfl HFF.out

end Go.Proofs.Ytcebnoapgceodaa.sT
end

section
namespace Go.Proofs.Ytcebnoapgceodaa.sT
open Go.RowKit Go.Proofs.Ytcebnoapgceodaa.rdS

set_option linter.unusedVariables false
set_option linter.unusedSimpArgs false

def DecP (w : World) (s : ByteArray) (e : Ending) (w' : World) : Prop := Below w.heap.size w w' ∧
  (e = .returned (.tuple #[.agg #[.int .i64 0, .slice none 0 0, .slice none 0 0], .int .i64 2]) ∨
   ∃ (lo : Nat) (ws : List Wr) (cs : List CmM) (a : Option Addr) (k : Nat) (ca : Option Addr) (kc : Nat), e = .returned (.tuple #[.agg #[.int .i64 (lo : Int), .slice a ws.length k, .slice ca cs.length kc], .int .i64 0]) ∧ Takes lo ws cs ∧ s.data.toList = octSt lo ws cs ∧ (ws.length + sumC cs < 30000 ∧ cs.length ≤ 1000000) ∧ WrsIs w' a ws ∧ CIs w' ca cs)

set_option maxHeartbeats 2000000 in
set_option maxRecDepth 100000 in
theorem decode_any (s : ByteArray) (hs : s.size ≤ 60000) (w : World) :
    Calls Try.prog 31 #[.string s] w (DecP w s) := by
  obtain ⟨Q, hQ⟩ : ∃ Q, Q = DecP w s := ⟨_, rfl⟩
  have hlen : s.data.toList.length = s.size := by rw [Array.length_toList]; rfl
  have hfew : Few6 (some s.data.toList) := fun l e => by
    injection e with e
    rw [← e]; omega
  have hba0 : Below w.heap.size w (w.alloc (.cells #[.int .i64 0, .slice none 0 0, .slice none 0 0] 43)) := (Below.refl _ _).alloc (Nat.le_refl _) _
  have hp0 := Box.new w 43 #[.int .i64 0, .slice none 0 0, .slice none 0 0]
  have HC : Hid (Calls Try.prog 64 #[.string s] (w.alloc (.cells #[.int .i64 0, .slice none 0 0, .slice none 0 0] 43)) fun e w1 => ∃ b, e = .returned (.pointer (some ⟨b, 0, none⟩)) ∧
      Hid (Calls Try.prog 68 #[.pointer (some ⟨b, 0, none⟩), .int .i64 1099511627776] w1 fun e w2 => ∃ sq, e = .returned (.int .i64 sq) ∧
        Hid (Calls Try.prog 69 #[.pointer (some ⟨b, 0, none⟩), .int .i64 9223372036854775807] (w2.alloc (.cells #[.int .i64 sq, .slice none 0 0, .slice none 0 0] 43)) fun e w3 => ∃ a m k, e = .returned (.slice a m k) ∧ w3.cell? ⟨w2.heap.size, 1, none⟩ = some (.slice none 0 0) ∧ w3.frozen? ⟨w2.heap.size, 1, none⟩ = false ∧
          Hid (Calls Try.prog 70 #[.pointer (some ⟨b, 0, none⟩)] (w3.setCell ⟨w2.heap.size, 1, none⟩ (.slice a m k)) fun e w4 => ∃ ca n kc, e = .returned (.slice ca n kc) ∧ w4.cell? ⟨w2.heap.size, 2, none⟩ = some (.slice none 0 0) ∧ w4.frozen? ⟨w2.heap.size, 2, none⟩ = false ∧
            Hid (Calls Try.prog 66 #[.pointer (some ⟨b, 0, none⟩)] (w4.setCell ⟨w2.heap.size, 2, none⟩ (.slice ca n kc)) fun e w5 =>
              (e = .returned (.int .i64 2) ∧ Hid (P3 w5 w.heap.size (.int .i64 0) (.slice none 0 0) (.slice none 0 0) (.int .i64 0) (.slice none 0 0) (.slice none 0 0) ∧ Q (.returned (.tuple #[.agg #[.int .i64 0, .slice none 0 0, .slice none 0 0], .int .i64 2])) (sets3 w5 w.heap.size (.int .i64 0) (.slice none 0 0) (.slice none 0 0)))) ∨
              (e = .returned (.int .i64 0) ∧ Q3 w5 w2.heap.size (.int .i64 sq) (.slice a m k) (.slice ca n kc) ∧
                Hid (Calls Try.prog 25 #[.agg #[.int .i64 sq, .slice a m k, .slice ca n kc]] w5 fun e w6 =>
                  (e = .returned (.tuple #[.pointer none, .int .i64 1]) ∧ Hid (P3 w6 w.heap.size (.int .i64 0) (.slice none 0 0) (.slice none 0 0) (.int .i64 0) (.slice none 0 0) (.slice none 0 0) ∧ Q (.returned (.tuple #[.agg #[.int .i64 0, .slice none 0 0, .slice none 0 0], .int .i64 2])) (sets3 w6 w.heap.size (.int .i64 0) (.slice none 0 0) (.slice none 0 0)))) ∨
                  (∃ t, e = .returned (.tuple #[.pointer (some ⟨t, 0, none⟩), .int .i64 0]) ∧ Hid (Q3 w6 w2.heap.size (.int .i64 sq) (.slice a m k) (.slice ca n kc) ∧ P3 w6 w.heap.size (.int .i64 0) (.slice none 0 0) (.slice none 0 0) (.int .i64 sq) (.slice a m k) (.slice ca n kc) ∧ Q (.returned (.tuple #[.agg #[.int .i64 sq, .slice a m k, .slice ca n kc], .int .i64 0])) (sets3 w6 w.heap.size (.int .i64 sq) (.slice a m k) (.slice ca n kc))))))))))) := Lib.hid (by
    refine (read_any s _).mono ?_
    rintro e w1 ⟨rfl, hr, hb1⟩
    obtain ⟨b, hb⟩ : ∃ b, b = (w.alloc (.cells #[.int .i64 0, .slice none 0 0, .slice none 0 0] 43)).heap.size := ⟨_, rfl⟩
    rw [← hb] at hr ⊢
    have hbz : b = w.heap.size + 1 := by rw [hb]; simp
    have hp1 : Box w1 w.heap.size 43 #[.int .i64 0, .slice none 0 0, .slice none 0 0] := (hb1.block _ hp0.lt).trans hp0
    have hbel1 : Below w.heap.size w w1 := hba0.trans (hb1.mono hba0.size)
    have hr1 : RS w1 b (some s.data.toList) := by
      show Rd w1 b ⟨s.data.toList.toArray⟩ false
      simpa using hr
    have hblt := hr1.lt
    -- the number
    obtain ⟨lo, hlo⟩ : ∃ lo, lo = (numS (some s.data.toList) 1099511627776).1 := ⟨_, rfl⟩
    obtain ⟨st1, hst1⟩ : ∃ st1, st1 = (numS (some s.data.toList) 1099511627776).2 := ⟨_, rfl⟩
    have hf1 : Few6 st1 := by rw [hst1]; exact few_num hfew _
    refine ⟨b, rfl, Lib.hid ((num_s b _ 1099511627776 1099511627776 rfl (by omega) w1 hr1).mono ?_)⟩
    rintro e w2 ⟨rfl, g2⟩
    rw [← hlo]
    rw [← hst1] at g2
    have hz2 := g2.2.size
    have hbel2 : Below w.heap.size w w2 := hbel1.grown g2.2 hbel1.size fun q e => by injection e with e; omega
    have hp2 : Box w2 w.heap.size 43 #[.int .i64 0, .slice none 0 0, .slice none 0 0] := (g2.other hp1.lt (by omega)).trans hp1
    refine ⟨(lo : Int), rfl, Lib.hid ?_⟩
    obtain ⟨x, hx⟩ : ∃ x, x = w2.heap.size := ⟨_, rfl⟩
    rw [← hx]
    have hba2 : Below w2.heap.size w2 (w2.alloc (.cells #[.int .i64 (lo : Int), .slice none 0 0, .slice none 0 0] 43)) := (Below.refl _ _).alloc (Nat.le_refl _) _
    have hx2 := Box.new w2 43 #[.int .i64 (lo : Int), .slice none 0 0, .slice none 0 0]
    rw [← hx] at hx2
    have hr2 := g2.1.keep (hba2.block b g2.1.lt)
    have hp2a := hp2.alloc (.cells #[.int .i64 (lo : Int), .slice none 0 0, .slice none 0 0] 43)
    have hbel2a := hbel2.trans (hba2.mono hbel2.size)
    have hz2a : (w2.alloc (.cells #[.int .i64 (lo : Int), .slice none 0 0, .slice none 0 0] 43)).heap.size = x + 1 := by rw [hx]; simp
    -- the base
    obtain ⟨ws, hws⟩ : ∃ ws, ws = (readWs st1 9223372036854775807).1 := ⟨_, rfl⟩
    obtain ⟨st2, hst2⟩ : ∃ st2, st2 = (readWs st1 9223372036854775807).2 := ⟨_, rfl⟩
    have hf2 : Few6 st2 := by rw [hst2]; exact few_ws hf1 _
    refine (readWs_any b st1 hf1 9223372036854775807 9223372036854775807 rfl (by omega) _ hr2).mono ?_
    rintro e w3 ⟨a, k, rfl, g3, hrow⟩
    rw [← hws, hz2a] at hrow
    rw [← hst2] at g3
    rw [← hws]
    have hz3 := g3.2.size
    rw [hz2a] at hz3
    have hx3 : Box w3 x 43 #[.int .i64 (lo : Int), .slice none 0 0, .slice none 0 0] := (g3.other hx2.lt (by omega)).trans hx2
    have hp3 : Box w3 w.heap.size 43 #[.int .i64 0, .slice none 0 0, .slice none 0 0] := (g3.other hp2a.lt (by omega)).trans hp2a
    have hbel3 : Below w.heap.size w w3 := hbel2a.grown g3.2 hbel2a.size fun q e => by injection e with e; omega
    refine ⟨a, ws.length, k, rfl, hx3.cell 1, hx3.free 1, Lib.hid ?_⟩
    obtain ⟨w3s, hw3s⟩ : ∃ w3s, w3s = w3.setCell ⟨x, 1, none⟩ (.slice a ws.length k) := ⟨_, rfl⟩
    have hx3s : Box w3s x 43 #[.int .i64 (lo : Int), .slice a ws.length k, .slice none 0 0] := by rw [hw3s]; exact hx3.setSame 1 _
    have hp3s : Box w3s w.heap.size 43 #[.int .i64 0, .slice none 0 0, .slice none 0 0] := by rw [hw3s]; exact hp3.setFar (by show w.heap.size ≠ x; omega) _
    have hr3s : RS w3s b st2 := by rw [hw3s]; exact g3.1.keep (Below.heap_setCell w3 ⟨x, 1, none⟩ _ b (by show b ≠ x; omega))
    have hbel3s : Below w.heap.size w w3s := by rw [hw3s]; exact hbel3.setCell (by show w.heap.size ≤ x; omega) _
    have hrow3s : RowK 48 3 (x + 1) w3s (.slice a ws.length k) ws.length (ws.flatMap wrcells) := by rw [hw3s]; exact hrow.keep fun q hq => ⟨Below.heap_setCell w3 ⟨x, 1, none⟩ _ q (by show q ≠ x; have := (hrow.lt q hq).1; omega), (hrow.lt q hq).1⟩
    have hz3s : w3s.heap.size = w3.heap.size := by rw [hw3s]; simp
    rw [← hw3s]
    -- the commits
    obtain ⟨cs, hcs⟩ : ∃ cs, cs = (readCs st2).1 := ⟨_, rfl⟩
    obtain ⟨st3, hst3⟩ : ∃ st3, st3 = (readCs st2).2 := ⟨_, rfl⟩
    refine (readCs_any b st2 hf2 w3s hr3s).mono ?_
    rintro e w4 ⟨ca, kc, rfl, g4, hown⟩
    rw [← hcs] at hown
    rw [← hst3] at g4
    rw [← hcs]
    have hz4 := g4.2.size
    have hx4 : Box w4 x 43 #[.int .i64 (lo : Int), .slice a ws.length k, .slice none 0 0] := (g4.other hx3s.lt (by omega)).trans hx3s
    have hp4 : Box w4 w.heap.size 43 #[.int .i64 0, .slice none 0 0, .slice none 0 0] := (g4.other hp3s.lt (by omega)).trans hp3s
    have hbel4 : Below w.heap.size w w4 := hbel3s.grown g4.2 hbel3s.size fun q e => by injection e with e; omega
    have hrow4 := hrow3s.grown g4.2 (.inr fun e => by have := (hrow3s.lt b e).1; omega)
    refine ⟨ca, cs.length, kc, rfl, hx4.cell 2, hx4.free 2, Lib.hid ?_⟩
    obtain ⟨w5, hw5⟩ : ∃ w5, w5 = w4.setCell ⟨x, 2, none⟩ (.slice ca cs.length kc) := ⟨_, rfl⟩
    have hx5 : Box w5 x 43 #[.int .i64 (lo : Int), .slice a ws.length k, .slice ca cs.length kc] := by rw [hw5]; exact hx4.setSame 2 _
    have hp5 : Box w5 w.heap.size 43 #[.int .i64 0, .slice none 0 0, .slice none 0 0] := by rw [hw5]; exact hp4.setFar (by show w.heap.size ≠ x; omega) _
    have hr5 : RS w5 b st3 := by rw [hw5]; exact g4.1.keep (Below.heap_setCell w4 ⟨x, 2, none⟩ _ b (by show b ≠ x; omega))
    have hbel5 : Below w.heap.size w w5 := by rw [hw5]; exact hbel4.setCell (by show w.heap.size ≤ x; omega) _
    have hrow5 : RowK 48 3 (x + 1) w5 (.slice a ws.length k) ws.length (ws.flatMap wrcells) := by rw [hw5]; exact hrow4.keep fun q hq => ⟨Below.heap_setCell w4 ⟨x, 2, none⟩ _ q (by show q ≠ x; have := (hrow4.lt q hq).1; omega), (hrow4.lt q hq).1⟩
    have hown5 : CmsOwn w3s.heap.size w5 (.slice ca cs.length kc) cs := hown.same fun q hq _ => by rw [hw5]; exact Below.heap_setCell w4 ⟨x, 2, none⟩ _ q (by show q ≠ x; omega)
    rw [← hw5]
    refine (end_s b _ w5 hr5).mono ?_
    rintro e w5' ⟨rfl, rfl⟩
    rcases endS_cases st3 with ⟨e0, e1⟩ | ⟨e0, _⟩
    · rw [e0]
      have k2 := (readCs_back (st := st2) (cs := cs) (r := []) (Prod.ext hcs.symm (hst3.symm.trans e1))).1
      have k1 := (readWs_back (st := st1) (M := 9223372036854775807) (ws := ws) (r := octN cs.length ++ cs.flatMap octCm ++ []) (Prod.ext hws.symm (hst2.symm.trans k2))).1
      have k0 := (numS_back (st := some s.data.toList) (M := 1099511627776) (n := lo) (r := octWs ws ++ (octN cs.length ++ cs.flatMap octCm ++ [])) (Prod.ext hlo.symm (hst1.symm.trans k1))).1
      injection k0 with k0
      have hoct : s.data.toList = octSt lo ws cs := by rw [k0]; unfold octSt; simp only [List.append_nil]
      have hsum : 3 * (ws.length + sumC cs) ≤ 60000 := by
        have h9 := hlen
        rw [hoct] at h9
        unfold octSt octWs at h9
        simp only [List.length_append] at h9
        have f1 := flat_pos ws
        have f2 := sum_pos cs
        omega
      have hcl := sumC_len cs
      refine .inr ⟨rfl, ⟨hx5.cell 0, hx5.cell 1, hx5.cell 2⟩, Lib.hid ?_⟩
      have hwi : WrsIs w5 a ws := wrs_at_row hrow5
      refine (rcStore_any (cap := k) (cc := kc) (lo : Int) hwi rfl hown5.is rfl (by omega) (few_sum (by omega)) (by omega)).mono ?_
      rintro e w6 ⟨hb6, ⟨hno, rfl⟩ | ⟨t, lo', h3, h4, h5, rfl, h6⟩⟩
      · have hp6 : Box w6 w.heap.size 43 #[.int .i64 0, .slice none 0 0, .slice none 0 0] := (hb6.block _ hp5.lt).trans hp5
        refine .inl ⟨rfl, Lib.hid ⟨sets3_cells hp6 _ _ _, ?_⟩⟩
        rw [hQ]
        exact ⟨sets3_below (hbel5.trans (hb6.mono hbel5.size)) _ _ _ _ (Nat.le_refl _), .inl rfl⟩
      · have hp6 : Box w6 w.heap.size 43 #[.int .i64 0, .slice none 0 0, .slice none 0 0] := (hb6.block _ hp5.lt).trans hp5
        have hx6 : Box w6 x 43 #[.int .i64 (lo : Int), .slice a ws.length k, .slice ca cs.length kc] := (hb6.block _ hx5.lt).trans hx5
        obtain rfl : lo' = lo := by omega
        refine .inr ⟨t, rfl, Lib.hid ⟨⟨hx6.cell 0, hx6.cell 1, hx6.cell 2⟩, sets3_cells hp6 _ _ _, ?_⟩⟩
        rw [hQ]
        refine ⟨sets3_below (hbel5.trans (hb6.mono hbel5.size)) _ _ _ _ (Nat.le_refl _), .inr ⟨lo', ws, cs, a, k, ca, kc, rfl, h5, hoct, ⟨by omega, by omega⟩, ?_, ?_⟩⟩
        · exact wrs_at_row ((hrow5.below hb6).keep fun q hq => ⟨sets3_far _ _ _ _ _ q (by have := (hrow5.lt q hq).1; omega), (hrow5.lt q hq).1⟩)
        · exact ((hown5.below hb6).same (W' := sets3 w6 w.heap.size (.int .i64 (lo' : Int)) (.slice a ws.length k) (.slice ca cs.length kc)) fun q hq _ => sets3_far _ _ _ _ _ q (by omega)).is
    · rw [e0]
      refine .inl ⟨rfl, Lib.hid ⟨sets3_cells hp5 _ _ _, ?_⟩⟩
      rw [hQ]
      exact ⟨sets3_below hbel5 _ _ _ _ (Nat.le_refl _), .inl rfl⟩)
  rw [← hQ]
  clear hQ hfew hba0 hp0 hs hlen
  go_enter Try.func31, Try.ntmps31
  go_wp2_with fail
  refine HC.out.mono ?_
  rintro e w1 ⟨b, rfl, HC2⟩
  clear HC
  go_wp2_with fail
  refine HC2.out.mono ?_
  rintro e w2 ⟨sq, rfl, HC3⟩
  clear HC2
  go_wp2_with fail
  refine HC3.out.mono ?_
  rintro e w3 ⟨a, m, k, rfl, x1, x2, HC4⟩
  clear HC3
  go_wp2_with fail
  refine HC4.out.mono ?_
  rintro e w4 ⟨ca, n, kc, rfl, y1, y2, HC5⟩
  clear HC4 x1 x2
  go_wp2_with fail
  refine HC5.out.mono ?_
  rintro e w5 (⟨rfl, HB⟩ | ⟨rfl, ⟨q0, q1, q2⟩, HC6⟩)
  · obtain ⟨⟨⟨c0, c1, c2⟩, ⟨f0, f1, f2⟩, m0, m1, m2⟩, HF⟩ := HB.out
    have HFF := Lib.hid HF
    clear HF HB HC5 y1 y2
    go_wp2
    exact bodyPost_ret (v := .tuple #[.agg #[.int .i64 0, .slice none 0 0, .slice none 0 0], .int .i64 2]) (by simp [results, Try.results31, go_sem, m0, m1, m2]) rfl HFF.out
  · clear HC5 y1 y2
    go_wp2_with fail
    refine HC6.out.mono ?_
    rintro e w6 (⟨rfl, HB⟩ | ⟨t, rfl, HB⟩)
    · obtain ⟨⟨⟨c0, c1, c2⟩, ⟨f0, f1, f2⟩, m0, m1, m2⟩, HF⟩ := HB.out
      have HFF := Lib.hid HF
      clear HF HB HC6 q0 q1 q2
      go_wp2
      exact bodyPost_ret (v := .tuple #[.agg #[.int .i64 0, .slice none 0 0, .slice none 0 0], .int .i64 2]) (by simp [results, Try.results31, go_sem, m0, m1, m2]) rfl HFF.out
    · obtain ⟨⟨x0, x1, x2⟩, ⟨⟨c0, c1, c2⟩, ⟨f0, f1, f2⟩, m0, m1, m2⟩, HF⟩ := HB.out
      have HFF := Lib.hid HF
      clear HF HB HC6 q0 q1 q2
      go_wp2
      exact bodyPost_ret (v := .tuple #[.agg #[.int .i64 sq, .slice a m k, .slice ca n kc], .int .i64 0]) (by simp [results, Try.results31, go_sem, m0, m1, m2]) rfl HFF.out

end Go.Proofs.Ytcebnoapgceodaa.sT
end

section
namespace Go.Proofs.Ytcebnoapgceodaa.recReads
open Go.RowKit Go.Proofs.Ytcebnoapgceodaa.sT

set_option linter.unusedVariables false
set_option linter.unusedSimpArgs false

set_option maxHeartbeats 2000000 in
set_option maxRecDepth 100000 in
theorem walk (s : ByteArray) (_w0 : s.size ≤ maxLen) (w : World) :
    Calls Try.prog 6 #[.string s] w fun e w' => e = .returned (.bool true) ∧ Below w.heap.size w w' := by
  have HH := Lib.hid (head11_any w)
  by_cases hs : 1000 < s.size
  · have hs' : (1000 : Int) < (s.size : Int) := by omega
    go_enter Try.func6, Try.ntmps6
    go_wp2_with fail
    refine HH.out.mono ?_
    rintro e w1 ⟨rfl, hb⟩
    have HB := Lib.hid hb
    clear hb HH
    go_wp2
    first | exact ⟨rfl, HB.out⟩ | (go_ret; exact ⟨by simp, HB.out⟩)
  · have hs' : ¬ (1000 : Int) < (s.size : Int) := by omega
    have HRC : Hid (∀ w1, Below w.heap.size w w1 → Calls Try.prog 29 #[.string s] w1 fun e w2 =>
        (e = .returned (.tuple #[.agg #[.int .i64 0, .int .i64 0, .slice none 0 0], .int .i64 2]) ∧ Hid (Below w.heap.size w (w2.alloc (.cells #[.int .i64 0, .int .i64 0, .slice none 0 0] 45)))) ∨
        ∃ m n a l k, e = .returned (.tuple #[.agg #[.int .i64 m, .int .i64 n, .slice a l k], .int .i64 0]) ∧
          Hid (Calls Try.prog 30 #[.agg #[.int .i64 m, .int .i64 n, .slice a l k]] (w2.alloc (.cells #[.int .i64 m, .int .i64 n, .slice a l k] 45)) fun e w3 => e = .returned (.tuple #[.string s, .int .i64 0]) ∧ Hid (Below w.heap.size w w3))) := Lib.hid fun w1 hb1 => by
      refine (readC_any s (by omega) w1).mono ?_
      rintro e w2 ⟨hb2, rfl | ⟨m, n, ws, a, k, rfl, hr, ho, hw⟩⟩
      · have hbb := hb1.trans (hb2.mono hb1.size)
        exact .inl ⟨rfl, Lib.hid (hbb.alloc hbb.size _)⟩
      · have hbb := hb1.trans (hb2.mono hb1.size)
        have hba : Below w2.heap.size w2 (w2.alloc (.cells #[.int .i64 (m : Int), .int .i64 (n : Int), .slice a ws.length k] 45)) := (Below.refl _ _).alloc (Nat.le_refl _) _
        refine .inr ⟨(m : Int), (n : Int), a, ws.length, k, rfl, Lib.hid ?_⟩
        refine (commit_yes (cap := k) (hw.below hba) rfl m n hr).mono ?_
        rintro e w3 ⟨rfl, hb3⟩
        have hba' := hbb.trans (hba.mono hbb.size)
        refine ⟨?_, Lib.hid (hba'.trans (hb3.mono hba'.size))⟩
        rw [← ho]
    have HDE : Hid (∀ w1, Below w.heap.size w w1 → Calls Try.prog 31 #[.string s] w1 fun e w2 =>
        (e = .returned (.tuple #[.agg #[.int .i64 0, .slice none 0 0, .slice none 0 0], .int .i64 2]) ∧ Hid (Below w.heap.size w (w2.alloc (.cells #[.int .i64 0, .slice none 0 0, .slice none 0 0] 43)))) ∨
        ∃ lo a l k ca cl kc, e = .returned (.tuple #[.agg #[.int .i64 lo, .slice a l k, .slice ca cl kc], .int .i64 0]) ∧
          Hid (Calls Try.prog 26 #[.agg #[.int .i64 lo, .slice a l k, .slice ca cl kc]] (w2.alloc (.cells #[.int .i64 lo, .slice a l k, .slice ca cl kc] 43)) fun e w3 => e = .returned (.tuple #[.string s, .int .i64 0]) ∧ (w3.cell? ⟨w2.heap.size, 0, none⟩ = some (.int .i64 lo) ∧ w3.cell? ⟨w2.heap.size, 1, none⟩ = some (.slice a l k) ∧ w3.cell? ⟨w2.heap.size, 2, none⟩ = some (.slice ca cl kc)) ∧
            Hid (Calls Try.prog 25 #[.agg #[.int .i64 lo, .slice a l k, .slice ca cl kc]] w3 fun e w4 => (∃ t, e = .returned (.tuple #[.pointer t, .int .i64 0])) ∧ Hid (Below w.heap.size w w4)))) := Lib.hid fun w1 hb1 => by
      refine (decode_any s (by omega) w1).mono ?_
      rintro e w2 ⟨hb2, rfl | ⟨lo, ws, cs, a, k, ca, kc, rfl, ht, ho, ⟨hn1, hn2⟩, hw, hc⟩⟩
      · have hbb := hb1.trans (hb2.mono hb1.size)
        exact .inl ⟨rfl, Lib.hid (hbb.alloc hbb.size _)⟩
      · have hbb := hb1.trans (hb2.mono hb1.size)
        have hba : Below w2.heap.size w2 (w2.alloc (.cells #[.int .i64 (lo : Int), .slice a ws.length k, .slice ca cs.length kc] 43)) := (Below.refl _ _).alloc (Nat.le_refl _) _
        have hbx := Box.new w2 43 #[.int .i64 (lo : Int), .slice a ws.length k, .slice ca cs.length kc]
        have hba' := hbb.trans (hba.mono hbb.size)
        refine .inr ⟨(lo : Int), a, ws.length, k, ca, cs.length, kc, rfl, Lib.hid ?_⟩
        refine (encode_any (cap := k) (cc := kc) (lo : Int) (hw.below hba) rfl (hc.below hba) rfl (by omega) (few_sum (by omega)) (by omega)).mono ?_
        rintro e w3 ⟨hb3, ⟨hno, _⟩ | ⟨lo', hl', ht', rfl⟩⟩
        · exact absurd ht (hno lo rfl)
        · obtain rfl : lo' = lo := by omega
          have hbx3 : Box w3 w2.heap.size 43 #[.int .i64 (lo' : Int), .slice a ws.length k, .slice ca cs.length kc] := (hb3.block _ hbx.lt).trans hbx
          have hbb3 := hba'.trans (hb3.mono hba'.size)
          refine ⟨by rw [← ho], ⟨hbx3.cell 0, hbx3.cell 1, hbx3.cell 2⟩, Lib.hid ?_⟩
          refine (rcStore_any (cap := k) (cc := kc) (lo' : Int) ((hw.below hba).below hb3) rfl ((hc.below hba).below hb3) rfl (by omega) (few_sum (by omega)) (by omega)).mono ?_
          rintro e w4 ⟨hb4, ⟨hno, _⟩ | ⟨t, lo2, _, _, _, rfl, _⟩⟩
          · exact absurd ht (hno lo' rfl)
          · exact ⟨⟨_, rfl⟩, Lib.hid (hbb3.trans (hb4.mono hbb3.size))⟩
    clear hs
    go_enter Try.func6, Try.ntmps6
    go_wp2_with fail
    refine HH.out.mono ?_
    rintro e w1 ⟨rfl, hb⟩
    have HRC1 := Lib.hid (HRC.out w1 hb)
    clear hb HH HRC
    go_wp2_with fail
    refine HRC1.out.mono ?_
    rintro e w2 (⟨rfl, HB2⟩ | ⟨m, n, a, l, k, rfl, HCO⟩)
    · clear HRC1
      go_wp2_with fail
      refine (HDE.out _ HB2.out).mono ?_
      rintro e w5 (⟨rfl, HB5⟩ | ⟨lo, a5, l5, k5, ca, cl, kc, rfl, HE⟩)
      · clear HDE HB2
        go_wp2
        first | exact ⟨rfl, HB5.out⟩ | (go_ret; exact ⟨by simp, HB5.out⟩)
      · clear HDE HB2
        go_wp2_with fail
        refine HE.out.mono ?_
        rintro e w6 ⟨rfl, ⟨x0, x1, x2⟩, HS⟩
        clear HE
        go_wp2_with fail
        refine HS.out.mono ?_
        rintro e w7 ⟨⟨t, rfl⟩, HB7⟩
        clear HS x0 x1 x2
        go_wp2
        first | exact ⟨by simp, HB7.out⟩ | (go_ret; exact ⟨by simp, HB7.out⟩)
    · clear HRC1
      go_wp2_with fail
      refine HCO.out.mono ?_
      rintro e w3 ⟨rfl, HB3⟩
      clear HCO
      go_wp2_with fail
      refine (HDE.out _ HB3.out).mono ?_
      rintro e w5 (⟨rfl, HB5⟩ | ⟨lo, a5, l5, k5, ca, cl, kc, rfl, HE⟩)
      · clear HDE HB3
        go_wp2
        first | exact ⟨rfl, HB5.out⟩ | (go_ret; exact ⟨by simp, HB5.out⟩)
      · clear HDE HB3
        go_wp2_with fail
        refine HE.out.mono ?_
        rintro e w6 ⟨rfl, ⟨x0, x1, x2⟩, HS⟩
        clear HE
        go_wp2_with fail
        refine HS.out.mono ?_
        rintro e w7 ⟨⟨t, rfl⟩, HB7⟩
        clear HS x0 x1 x2
        go_wp2
        first | exact ⟨by simp, HB7.out⟩ | (go_ret; exact ⟨by simp, HB7.out⟩)

end Go.Proofs.Ytcebnoapgceodaa.recReads
end

section
namespace Go.Proofs.Ytcebnoapgceodaa.recReads
open Go.ChangeShapes Go.WideShapes Go.ChangeAt Go.RowKit
open Go.ChangeMaps (open_string shut_string)
set_option linter.unusedVariables false

theorem own : ownKnob Try.prog.godebug = none := by kernel_rfl
theorem laidOut : laidOutB Try.prog = true := by kernel_rfl

set_option maxRecDepth 100000 in
theorem lifted (os : Os) (started : os.Started) (H : Type) (enc : TypeId × Value → H) :
    ReturnsInHanded {} Try.checked os 6 .any (Rows.recReadsSpec.pre6 enc Try.prog Try.f6 Rows.recReadsRow.domain false) (Rows.recReadsSpec.post enc Try.prog Try.f6 false true false false) := by
  refine returnsInHanded_of_change (C := Try.checked) own started (by kernel_rfl) Try.func6
    (ChangeSpec.witness6 (enc := enc) (C := Try.checked) false ⟨#[], #[.string ByteArray.empty], []⟩ 8 (by kernel_rfl) (by kernel_rfl) (by kernel_rfl) (by kernel_rfl)) ?_
  intro W base args ds gs before hval0 hW hcnd _
  have hval : ∀ (j : Nat) t v, Try.f6.params[j]? = some t → args[j]? = some v → Value.okWide Try.prog W .any base t v := hval0
  have hW' := hW
  obtain ⟨p, q, hA0, hV, rfl, hfz, hnd⟩ := hW
  have hA : DataW.TrodAll enc Try.prog W 0 (fun _ => true) true Try.f6.params.toList args.toList ds p := hA0
  rw [Try.params6] at hA hval
  obtain ⟨v0, vs0, d0, ds0, p0, q0, hargs, rfl, rfl, h0, r0⟩ := trodAll_cons hA
  obtain ⟨rfl, rfl, rfl⟩ := trodAll_nil r0
  obtain rfl : args = #[v0] := by cases args; simp_all
  obtain ⟨rfl, rfl⟩ := trodVars_none hV
  obtain ⟨a0, rfl, rfl, rfl, w0⟩ := open_string Try.underlying9 (hval 0 9 v0 rfl rfl) h0
  clear hA0 hval0
  refine (walk (w := W) a0 w0).mono fun e W' ⟨he, bel⟩ => ?_
  subst he
  exact ⟨_, rfl, _, _, _, [], _, [], hW', trodAll_mk1 (shut_bool Try.underlying4 _), (trodAll_cons_mk (shut_string Try.underlying9 w0) trodAll_mk0), rfl, bel.frame _, fun h => by cases h⟩

theorem over : Rows.recReadsRow.holds Try.pinned (OpenSpec.ofChange Rows.recReadsSpec) :=
  OpenClaim.holds_of_wide 6 Try.f6 rfl rfl rfl rfl rfl rfl rfl ⟨rfl, rfl, rfl, rfl, rfl⟩ rfl rfl rfl rfl rfl (by kernel_rfl) Try.func6 (by kernel_rfl)
    (of_decide_eq_true (by kernel_rfl)) (by unfold Func.isWrapper; first | (rw [if_pos (by decide +kernel)]; kernel_rfl) | (rw [if_neg (by decide +kernel)]; exact ⟨rfl, rfl⟩))
    (fun os started H enc _ => lifted os started H enc)

end Go.Proofs.Ytcebnoapgceodaa.recReads

namespace Go.Proofs.Ytcebnoapgceodaa
/-- THE STATEMENT -/
theorem recReads_holds : Rows.RecReadsSaid := recReads.over
end Go.Proofs.Ytcebnoapgceodaa
end
