/-
  A map from names to values of any type that the call owns: the names rise in a plain list; look-up, store, delete at the operation's run. (Of no package: the map's and the values' types are arguments.)
-/
import Derived.WalkKit
import Derived.Maps.Own
import Derived.Maps.OwnOps
import Derived.StringKeys
import Derived.WideAt
import Derived.WideShapes
import Derived.Sort.KeysCollected
import Derived.Lib.Hide
import Derived.Test.YtcebnoapgceodaaProg
namespace Go.Proofs.Ytcebnoapgceodaa
open Go.RowKit Go.ChangeMaps Go.MapKept Go.WideMaps
open Go.Maps (Keyed)

/-- an element reads as itself -/
def RV (v : Value) : Option (DataW Value × List MemPlace) := some (.held v, [])

abbrev FL := List (List UInt8 × Value)
def dm (fs : FL) : DataW Value := .map (fs.map fun p => (.string p.1, .held p.2))
def insS (x : List UInt8 × Value) : FL → FL
  | [] => [x]
  | y :: r => if bytesBefore x.1 y.1 then x :: y :: r else y :: insS x r
def delS (k : List UInt8) (fs : FL) : FL := fs.filter fun p => !(p.1 == k)
def putS (k : List UInt8) (v : Value) (fs : FL) : FL := insS (k, v) (delS k fs)
def getS (k : List UInt8) (fs : FL) : Option Value := (fs.find? fun p => p.1 == k).map (·.2)

theorem dm_ins (x : List UInt8 × Value) : ∀ fs : FL, DataW.insert (Lit.string x.1, DataW.held x.2) (fs.map fun p => (Lit.string p.1, DataW.held p.2)) = (insS x fs).map fun p => (Lit.string p.1, DataW.held p.2)
  | [] => rfl
  | y :: r => by
    rw [List.map_cons, DataW.insert, insS]
    have e : (Lit.string x.1).before (Lit.string y.1) = bytesBefore x.1 y.1 := rfl
    by_cases h : bytesBefore x.1 y.1 = true
    · rw [if_pos h, if_pos (e.trans h)]; simp
    · rw [if_neg h, if_neg (fun g => h (e.symm.trans g)), dm_ins x r]; simp
theorem dm_filter (k : List UInt8) (fs : FL) : (fs.map fun p => (Lit.string p.1, DataW.held (H := Value) p.2)).filter (fun p => !p.1.sameKey (.string k)) = (delS k fs).map fun p => (Lit.string p.1, DataW.held p.2) := by
  unfold delS
  rw [List.filter_map]
  rfl
theorem dm_put (k : List UInt8) (v : Value) (fs : FL) : (dm fs).put (.string k) (.held v) = dm (putS k v fs) := by
  unfold dm DataW.put
  simp only
  rw [dm_filter, dm_ins (k, v)]
  rfl
theorem dm_del (k : List UInt8) (fs : FL) : (dm fs).del (.string k) = dm (delS k fs) := by
  unfold dm DataW.del
  simp only
  rw [dm_filter]
theorem dm_at (k : List UInt8) (z : DataW Value) : ∀ fs : FL, (dm fs).atKey (.string k) z = match getS k fs with | some v => .held v | none => z
  | [] => rfl
  | y :: r => by
    have ih := dm_at k z r
    unfold dm DataW.atKey getS at ih ⊢
    simp only [List.map_cons, List.find?_cons, Lit.sameKey] at ih ⊢
    by_cases h : y.1 == k
    · rw [h]; rfl
    · have h : (y.1 == k) = false := by simpa using h
      rw [h]
      exact ih
theorem dm_keys (fs : FL) : strKeys (dm fs) = fs.map (·.1) := by
  unfold dm strKeys
  simp only [List.map_map]
  rfl

/-- block b is a map of the names and values fs -/
def MapAt (k : TypeId) (w : World) (b n : Nat) (fs : FL) : Prop := w.ownsMap Try.prog k RV b n (dm fs)

theorem MapAt.made (k : TypeId) (w : World) : MapAt k (w.alloc (.map #[] 0)) w.heap.size 0 [] := World.ownsMap_made w Try.prog k RV

theorem MapAt.lt {k : TypeId} {w : World} {b n : Nat} {fs : FL} (h : MapAt k w b n fs) : b < w.heap.size := World.ownsMap.lt h

theorem MapAt.kept {k : TypeId} {w w' : World} {b n : Nat} {fs : FL} (h : MapAt k w b n fs) (hk : w'.heap[b]? = w.heap[b]?) : MapAt k w' b n fs := by
  obtain ⟨es, clock, hb, F, hs, hD⟩ := h
  exact ⟨es, clock, hk.trans hb, F, hs, hD⟩

theorem MapAt.look {k t e : TypeId} {w : World} {b n : Nat} {fs : FL} (h : MapAt k w b n fs) (hk : Try.prog.underlying k = some .string) (ht : Try.prog.underlying t = some (.map k e)) {z : Value} (hz : (zeroValue e).run Try.prog w = .ok z w) (s : ByteArray) (hs : s.size ≤ maxLen) (c : Bool) :
    (Instr.lookup t (.map (some b)) (.string s) c).run Try.prog w = .ok (if c then .tuple #[(getS s.data.toList fs).getD z, .bool (getS s.data.toList fs).isSome] else (getS s.data.toList fs).getD z) w := by
  obtain ⟨es, clock, hb, F, _, hD⟩ := h
  have key := keyOf_string_mk (P := Try.prog) hk hs
  rcases Maps.fit_look c (Maps.string_keyed hk) ht hz hb F key with ⟨hrun, _, hat⟩ | ⟨e0, y, _, _, hrun, hRv, hat, _⟩
  · have h1 := hat (.nil)
    rw [← hD, dm_at] at h1
    cases hg : getS s.data.toList fs with
    | none => rw [hrun]; rfl
    | some v => rw [hg] at h1; cases h1
  · have h1 := hat (.nil)
    rw [← hD, dm_at] at h1
    obtain rfl : y = (.held e0.val, []) := (Option.some.inj (show some ((DataW.held e0.val : DataW Value), ([] : List MemPlace)) = some y from hRv)).symm
    cases hg : getS s.data.toList fs with
    | none => rw [hg] at h1; cases h1
    | some v =>
      rw [hg] at h1
      have h2 : v = e0.val := DataW.held.inj h1
      rw [hrun, h2]; rfl

theorem MapAt.store {k t e : TypeId} {w : World} {b n : Nat} {fs : FL} (h : MapAt k w b n fs) (hk : Try.prog.underlying k = some .string) (ht : Try.prog.underlying t = some (.map k e)) (hn : n < 1000000) (s : ByteArray) (hs : s.size ≤ maxLen) (v : Value) :
    ∃ w', (Instr.mapUpdate t (.map (some b)) (.string s) v).run Try.prog w = .ok () w' ∧ MapAt k w' b (n + 1) (putS s.data.toList v fs) ∧ w.grownBy w' (some b) := by
  obtain ⟨w', h1, h2, h3⟩ := World.ownsMap.update h (Maps.string_keyed hk) ht (by unfold maxLen; omega) (keyOf_string_mk (P := Try.prog) hk hs) (show RV v = some (.held v, []) from rfl)
  rw [dm_put] at h2
  exact ⟨w', h1, h2, h3⟩

theorem MapAt.delete {k t e : TypeId} {w : World} {b n : Nat} {fs : FL} (h : MapAt k w b n fs) (hk : Try.prog.underlying k = some .string) (ht : Try.prog.underlying t = some (.map k e)) (s : ByteArray) (hs : s.size ≤ maxLen) (ty : TypeId) :
    ∃ w', (Builtin.delete_ #[t, k] ty #[.map (some b), .string s]).run Try.prog w = .ok (.tuple #[]) w' ∧ MapAt k w' b n (delS s.data.toList fs) ∧ w.grownBy w' (some b) := by
  obtain ⟨es, clock, hb, F, hsz, hD⟩ := h
  obtain ⟨es', hrun, F', hle, hdel, _⟩ := Maps.fit_drop (ty := ty) (Maps.string_keyed hk) ht hb F (keyOf_string_mk (P := Try.prog) hk hs)
  refine ⟨_, hrun, ⟨es', clock, heap_setBlock_same hb _, F', Nat.le_trans hle hsz, ?_⟩, ⟨rfl, rfl, rfl, by simp [setBlock], fun i _ hi => heap_setBlock_other hb _ (fun e => hi (by rw [e]))⟩⟩
  rw [← dm_del, hD]
  unfold DataW.del
  simp only
  rw [hdel]
  rfl

end Go.Proofs.Ytcebnoapgceodaa
