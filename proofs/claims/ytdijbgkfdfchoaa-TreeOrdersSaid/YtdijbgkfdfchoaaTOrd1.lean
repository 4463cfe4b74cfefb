/-
  TreeOrders: the law's world behind each of its loops.
-/
import Derived.Test.YtdijbgkfdfchoaaTOrdM
import Derived.Test.YtdijbgkfdfchoaaTRow
namespace Go.Proofs.Ytdijbgkfdfchoaa.treeOrders
open Go.RowKit Go.Proofs.Ytdijbgkfdfchoaa.tI Go.Proofs.Ytdijbgkfdfchoaa.tRow

set_option linter.unusedVariables false
set_option linter.unusedSimpArgs false

def Ca (q : Nat) : Nat → Prop := fun x => q + 2 ≤ x ∧ x ≠ q + 3
def Cb (q : Nat) : Nat → Prop := fun x => x = q + 3
def Cr (q R : Nat) : Nat → Prop := fun x => x = q + 3 ∨ R ≤ x

/-- the result's cell, the map's -/
def Base (w : World) (q : Nat) (wr : World) : Prop :=
  Below w.heap.size w wr ∧ Boxed wr w.heap.size 4 (.bool false) ∧ Boxed wr (q + 1) 50 (.map (some q)) ∧ w.heap.size < q

theorem Base.kept {w : World} {q : Nat} {wr w' : World} (h : Base w q wr) (h1 : w'.os = wr.os) (h2 : w'.tape = wr.tape) (h3 : w'.output = wr.output) (h4 : wr.heap.size ≤ w'.heap.size) (h5 : ∀ x, x ≤ q + 1 → x ≠ q → x < wr.heap.size → w'.heap[x]? = wr.heap[x]?) : Base w q w' := by
  obtain ⟨⟨b1, b2, b3, b4, b5⟩, c1, c2, c3⟩ := h
  have l1 := c1.lt
  have l2 := c2.lt
  exact ⟨⟨h1.trans b1, h2.trans b2, h3.trans b3, Nat.le_trans b4 h4, fun x hx => (h5 x (by omega) (by omega) (by omega)).trans (b5 x hx)⟩, (h5 _ (by omega) (by omega) l1).trans c1, (h5 _ (by omega) (by omega) l2).trans c2, c3⟩

theorem zero_i (w : World) : (zeroValue 3).run Try.prog w = .ok (.int .i64 0) w := Try.zeroValue3 w

theorem look2 {wr : World} {q c : Nat} {V : List KV} (h : MapAt 9 wr q c (toF V)) (key : ByteArray) (hs : key.size ≤ maxLen) :
    (Instr.lookup 50 (.map (some q)) (.string key) true).run Try.prog wr = .ok (.tuple #[(getK V key).getD (.int .i64 0), .bool (getK V key).isSome]) wr := by
  have h1 := h.look Try.underlying9 Try.underlying50 (zero_i wr) key hs true
  rw [if_pos rfl, get_map] at h1
  exact h1
theorem look1 {wr : World} {q c : Nat} {V : List KV} (h : MapAt 9 wr q c (toF V)) (key : ByteArray) (hs : key.size ≤ maxLen) :
    (Instr.lookup 50 (.map (some q)) (.string key) false).run Try.prog wr = .ok ((getK V key).getD (.int .i64 0)) wr := by
  have h1 := h.look Try.underlying9 Try.underlying50 (zero_i wr) key hs false
  rw [if_neg (by simp), get_map] at h1
  exact h1

/-- the first loop -/
def L1 (w : World) (q : Nat) (ks : List ByteArray) (k : Nat) (wr : World) : Prop :=
  Base w q wr ∧ (∃ m c, c ≤ k ∧ MapAt 9 wr q c (toF m) ∧ Is m (fst ks k)) ∧ TreeAt (Ca q) wr (q + 2) [] ∧ TreeAt (Cb q) wr (q + 3) []

theorem L1.step {w : World} {q : Nat} {ks : List ByteArray} {k : Nat} {wr : World} (h : L1 w q ks k wr) (hk : k < 200) {key : ByteArray} (he : ks[k]? = some key) (hs : key.size ≤ maxLen) :
    ∃ z b, (Instr.lookup 50 (.map (some q)) (.string key) true).run Try.prog wr = .ok (.tuple #[z, .bool b]) wr ∧ (b = true → L1 w q ks (k + 1) wr) ∧
      (b = false → ∃ w4, (Instr.mapUpdate 50 (.map (some q)) (.string key) (.int .i64 (k : Int))).run Try.prog wr = .ok () w4 ∧ L1 w q ks (k + 1) w4) := by
  obtain ⟨hB, ⟨m, c, hc, hM, hI⟩, hA, hT⟩ := h
  refine ⟨_, _, look2 hM key hs, fun hb => ?_, fun hb => ?_⟩
  · obtain ⟨v, hv⟩ := Option.isSome_iff_exists.1 hb
    exact ⟨hB, ⟨m, c, by omega, hM, hI.congr fun x y => fst_same he ((hI.get key v).1 hv) x y⟩, hA, hT⟩
  · have hn : getK m key = none := by cases h : getK m key with | none => rfl | some v => rw [h] at hb; cases hb
    obtain ⟨w4, hr, hM4, hg⟩ := hM.store Try.underlying9 Try.underlying50 (by omega) key hs (.int .i64 (k : Int))
    rw [put_map hI.1] at hM4
    have hk5 : ∀ x, x ≠ q → x < wr.heap.size → w4.heap[x]? = wr.heap[x]? := fun x hx hl => hg.block x hl fun e => hx (Option.some.inj e)
    refine ⟨w4, hr, hB.kept hg.os hg.tape hg.output hg.size fun x _ hx hl => hk5 x hx hl, ⟨_, c + 1, by omega, hM4, (hI.put key _).congr fun x y => fst_next he ((hI.none key).1 hn) x y⟩, hA.keep fun x hx hl => ⟨hk5 x (by have := hx.1; omega) hl, hx⟩, hT.keep fun x hx hl => ⟨hk5 x (by have : x = q + 3 := hx; omega) hl, hx⟩⟩

/-- the second loop -/
def L2 (w : World) (q : Nat) (V : List KV) (f : ByteArray → Value → Prop) (k : Nat) (wr : World) : Prop :=
  Base w q wr ∧ (∃ c, MapAt 9 wr q c (toF V)) ∧ (∃ ls, TreeAt (Ca q) wr (q + 2) ls ∧ Is ls.flatten f ∧ total ls ≤ k) ∧ TreeAt (Cb q) wr (q + 3) []

theorem flat_total (ls : List (List KV)) : total ls = ls.flatten.length := rfl

theorem L2.put {w : World} {q : Nat} {V : List KV} {f g : ByteArray → Value → Prop} {k : Nat} {wr : World} (h : L2 w q V f k wr) (hk : k < 400) (key : ByteArray) (v : Int) (hg : ∀ x y, ((x = key ∧ y = .int .i64 v) ∨ (x ≠ key ∧ f x y)) ↔ g x y) :
    Calls Try.prog 16 #[.pointer (some ⟨q + 2, 0, none⟩), .string key, .int .i64 v] wr fun e w3 => (∃ b, e = .returned (.bool b)) ∧ L2 w q V g (k + 1) w3 := by
  obtain ⟨hB, ⟨c, hM⟩, ⟨ls, hA, hI, hn⟩, hT⟩ := h
  refine (put_any hA (by omega) key v).mono ?_
  rintro e w3 ⟨rfl, ⟨x1, x2, x3, x4, x5⟩, ls', hA', hf'⟩
  have hlt := hA.lt
  refine ⟨⟨_, rfl⟩, hB.kept x1 x2 x3 x4 fun x hx _ hl => x5 x hl fun hC => by have := hC.1; omega, ⟨c, hM.kept (x5 q hM.lt fun hC => by have := hC.1; omega)⟩, ⟨ls', hA'.keep fun x hx hl => ⟨rfl, ?_⟩, ?_, ?_⟩, hT.keep fun x hx hl => ⟨x5 x hl fun hC => hC.2 hx, hx⟩⟩
  · rcases hx with h | h
    · exact h
    · have hlt3 := hT.lt
      exact ⟨by omega, by omega⟩
  · rw [hf']; exact (hI.put key _).congr hg
  · have h1 := put_length (m := ls.flatten) (key := key) (v := .int .i64 v)
    rw [flat_total, hf']
    rw [flat_total] at hn
    omega

/-- the other loops: the first tree stays -/
def L3 (w : World) (q R : Nat) (V : List KV) (lsA : List (List KV)) (f : ByteArray → Value → Prop) (N : Nat) (wr : World) : Prop :=
  Base w q wr ∧ (∃ c, MapAt 9 wr q c (toF V)) ∧ TreeAt (fun x => Ca q x ∧ x < R) wr (q + 2) lsA ∧ (∃ ls, TreeAt (Cr q R) wr (q + 3) ls ∧ Is ls.flatten f ∧ total ls ≤ N) ∧ q + 3 < R ∧ R ≤ wr.heap.size

theorem L3.ext {w : World} {q R : Nat} {V : List KV} {lsA : List (List KV)} {f g : ByteArray → Value → Prop} {N M : Nat} {wr w3 : World} (h : L3 w q R V lsA f N wr) (hx : Ext (Cr q R) wr w3) {ls' : List (List KV)}
    (hT' : TreeAt (Nu (Cr q R) wr.heap.size) w3 (q + 3) ls') (hI : Is ls'.flatten g) (hn : total ls' ≤ M) : L3 w q R V lsA g M w3 := by
  obtain ⟨hB, ⟨c, hM⟩, hA, ⟨ls, hT, _, _⟩, hqR, hR⟩ := h
  obtain ⟨x1, x2, x3, x4, x5⟩ := hx
  have hno : ∀ x, x ≠ q + 3 → x < R → ¬ Cr q R x := fun x h1 h2 hC => by rcases hC with h | h <;> omega
  refine ⟨hB.kept x1 x2 x3 x4 fun x hx _ hl => x5 x hl (hno x (by omega) (by omega)), ⟨c, hM.kept (x5 q hM.lt (hno q (by omega) (by omega)))⟩, hA.keep fun x hx hl => ⟨x5 x hl (hno x hx.1.2 hx.2), hx⟩, ⟨ls', hT'.keep fun x hx hl => ⟨rfl, ?_⟩, hI, hn⟩, hqR, by omega⟩
  rcases hx with h | h
  · exact h
  · exact .inr (by omega)

theorem L3.put {w : World} {q R : Nat} {V : List KV} {lsA : List (List KV)} {f g : ByteArray → Value → Prop} {N : Nat} {wr : World} (h : L3 w q R V lsA f N wr) (hk : N < 400) (key : ByteArray) (v : Int) (hg : ∀ x y, ((x = key ∧ y = .int .i64 v) ∨ (x ≠ key ∧ f x y)) ↔ g x y) :
    Calls Try.prog 16 #[.pointer (some ⟨q + 3, 0, none⟩), .string key, .int .i64 v] wr fun e w3 => (∃ b, e = .returned (.bool b)) ∧ L3 w q R V lsA g (N + 1) w3 := by
  obtain ⟨_, _, _, ⟨ls, hT, hI, hn⟩, _, _⟩ := id h
  refine (put_any hT (by omega) key v).mono ?_
  rintro e w3 ⟨rfl, hx, ls', hT', hf'⟩
  refine ⟨⟨_, rfl⟩, h.ext hx hT' (by rw [hf']; exact (hI.put key _).congr hg) ?_⟩
  have h1 := put_length (m := ls.flatten) (key := key) (v := .int .i64 v)
  rw [flat_total, hf']
  rw [flat_total] at hn
  omega

theorem L3.drop {w : World} {q R : Nat} {V : List KV} {lsA : List (List KV)} {f g : ByteArray → Value → Prop} {N : Nat} {wr : World} (h : L3 w q R V lsA f N wr) (key : ByteArray) (hg : ∀ x y, (x ≠ key ∧ f x y) ↔ g x y) :
    Calls Try.prog 17 #[.pointer (some ⟨q + 3, 0, none⟩), .string key] wr fun e w3 => (∃ b, e = .returned (.bool b)) ∧ L3 w q R V lsA g N w3 := by
  obtain ⟨_, _, _, ⟨ls, hT, hI, hn⟩, _, _⟩ := id h
  refine (drop_any hT key).mono ?_
  rintro e w3 ⟨rfl, hx, ls', hT', hf'⟩
  refine ⟨⟨_, rfl⟩, h.ext hx hT' (by rw [hf']; exact (hI.drop key).congr hg) ?_⟩
  have h1 := drop_length (m := ls.flatten) (key := key)
  rw [flat_total, hf']
  rw [flat_total] at hn
  omega

theorem L3.congr {w : World} {q R : Nat} {V : List KV} {lsA : List (List KV)} {f g : ByteArray → Value → Prop} {N : Nat} {wr : World} (h : L3 w q R V lsA f N wr) (hg : ∀ x y, f x y ↔ g x y) : L3 w q R V lsA g N wr := by
  obtain ⟨h1, h2, h3, ⟨ls, hT, hI, hn⟩, h5⟩ := h
  exact ⟨h1, h2, h3, ⟨ls, hT, hI.congr hg, hn⟩, h5⟩

/-- from the second loop to the others -/
theorem L2.turn {w : World} {q : Nat} {V : List KV} {f : ByteArray → Value → Prop} {k : Nat} {wr : World} (h : L2 w q V f k wr) {g : ByteArray → Value → Prop} (hg : ∀ x y, ¬ g x y) :
    ∃ lsA, Is lsA.flatten f ∧ L3 w q wr.heap.size V lsA g 0 wr := by
  obtain ⟨hB, hM, ⟨ls, hA, hI, hn⟩, hT⟩ := h
  exact ⟨ls, hI, hB, hM, hA.keep fun x hx hl => ⟨rfl, hx, hl⟩, ⟨[], hT.keep fun x hx hl => ⟨rfl, .inl hx⟩, Is.nil.congr fun x y => ⟨False.elim, fun h => hg x y h⟩, by decide⟩, hT.lt, Nat.le_refl _⟩

end Go.Proofs.Ytdijbgkfdfchoaa.treeOrders
