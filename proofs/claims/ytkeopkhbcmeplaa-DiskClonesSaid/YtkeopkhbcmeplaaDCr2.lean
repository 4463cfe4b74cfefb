/-
  disk.Crash, walked.
-/
import Derived.Test.YtkeopkhbcmeplaaDOut
namespace Go.Proofs.Ytkeopkhbcmeplaa
open Go.RowKit

theorem encStr_eq (k : L8) : encStr k = .string ⟨k.toArray⟩ := rfl

/-- the names' row, new, wherever it lies -/
def NRow (w : World) (b : Nat) (gs : List FileS) : Prop := ∀ i (h : i < gs.length), w.cell? ⟨b, i, none⟩ = some (.string ⟨(gs[i]).name.toArray⟩)

theorem nrow_of {w : World} {B : Nat} {fs : List FP} {v : Value} (h : w.ownsRow B 9 1 v fs.length (fs.map fun p => encStr p.1.name)) (h0 : 0 < fs.length) :
    ∃ b c, v = .slice (some ⟨b, 0, none⟩) fs.length c ∧ B ≤ b ∧ b < w.heap.size ∧ NRow w b (fl fs) := by
  obtain ⟨b, c, rfl⟩ : ∃ b c, v = .slice (some ⟨b, 0, none⟩) fs.length c := by
    rcases h.2 with ⟨rfl, e⟩ | ⟨g, cap, cur, rfl, _⟩
    · omega
    · exact ⟨g, cap, rfl⟩
  have hlt := World.ownsRow.lt h b rfl
  refine ⟨b, c, rfl, hlt.1, hlt.2, fun i hi => ?_⟩
  rw [fl_length] at hi
  have := World.ownsRow.cells h (g := b) rfl i (.string ⟨((fl fs)[i]'(by rw [fl_length]; exact hi)).name.toArray⟩) (by simp [hi, fl, encStr_eq])
  have e : ((⟨b, 0, none⟩ : Addr).add i) = ⟨b, i, none⟩ := by unfold Addr.add; by_cases h0 : i = 0 <;> simp [h0]
  rwa [e] at this

theorem moreAt_in {w : World} {a : Option Addr} {len cap : Nat} {zs : List Int} (h : IsRow .i64 w a len cap zs) (i : Nat) (hi : i < len) : ∃ x, a = some x ∧ w.cell? (x.add i) = some (.int .i64 (moreAt zs len i)) := by
  rcases h with ⟨_, h0, _⟩ | ⟨x, rfl, h1, h2, h3, h4, _⟩
  · omega
  · exact ⟨x, rfl, by unfold moreAt; rw [if_pos hi]; exact h4 i (by omega)⟩

/-- a file more, behind all others, on the new disk -/
theorem put_last {B d mb n : Nat} {room : Int} {cs : List FP} (w : World) (h : DiskAt w B d mb n ⟨room, sumP cs, false, 0, false⟩ cs) (s : ByteArray) (hs : s.size ≤ maxLen) (f : FileS) (hf : f.name = bl s) (hl : ∀ p ∈ cs, bytesBefore p.1.name f.name = true) (v : Value) (hn : n < 1000000)
    (hv : Bs 5 B w v f.data) (hd : v.ownBlock ≠ some d) (hm : v.ownBlock ≠ some mb) (ho : ∀ p ∈ cs, v.ownBlock = none ∨ v.ownBlock ≠ p.2.ownBlock) (hu : sumP cs ≤ 1000000000) (hL : f.data.length ≤ 1000000000) :
    Calls Try.prog 33 #[.pointer (some ⟨d, 0, none⟩), .string s, .agg #[v, .int .i64 f.safe]] w fun e w' => e = .returned (.tuple #[]) ∧
      DiskAt w' B d mb (n + 1) ⟨room, sumP (cs ++ [(f, v)]), false, 0, false⟩ (cs ++ [(f, v)]) ∧ DKept w w' (Foot d mb cs) := by
  obtain ⟨a, c, rfl⟩ := Bs.lenEq hv
  have hl2 : ∀ p ∈ cs, bytesBefore p.1.name (bl s) = true := fun p hp => by rw [← hf]; exact hl p hp
  have e0 : lenOf s.data.toList cs = 0 := lenOf_last hl2
  have hdel : delP f.name cs = cs := delP_off fun p hp e => by have := hl p hp; rw [e] at this; rw [show bytesBefore f.name f.name = false from Go.WideAt.bytes_irrefl _] at this; cases this
  refine (put_any w h s hs f hf a c hn hv hd hm (by rw [hdel]; exact ho) (by show ((sumP cs : Nat) : Int) ≤ 1000000000; omega) hL (by rw [e0]; show (0 : Int) ≤ ((sumP cs : Nat) : Int); omega)).mono ?_
  rintro e w' ⟨rfl, hD, hk⟩
  rw [e0, putP_last hl] at hD
  have e3 : ((sumP cs : Nat) : Int) + ((f.data.length : Int) - ((0 : Nat) : Int)) = ((sumP (cs ++ [(f, Value.slice a f.data.length c)]) : Nat) : Int) := by rw [sumP_snoc]; simp
  refine ⟨rfl, ?_, hk⟩
  have e4 : ({ (⟨room, sumP cs, false, 0, false⟩ : DS) with used := ((sumP cs : Nat) : Int) + ((f.data.length : Int) - ((0 : Nat) : Int)) } : DS) = ⟨room, sumP (cs ++ [(f, Value.slice a f.data.length c)]), false, 0, false⟩ := by rw [e3]
  rw [← e4]
  exact hD

def CrRel (w wr : World) (B d mb n : Nat) (S : DS) (fs : List FP) (more : Nat → Int) (dc mc nb k : Nat) : Prop :=
  ∃ nn cs, nn ≤ k ∧ fl cs = crashF more ((fl fs).take k) ∧ DiskAt wr w.heap.size dc mc nn ⟨S.room, sumP cs, false, 0, false⟩ cs ∧ DiskAt wr B d mb n S fs ∧ Below w.heap.size w wr ∧ NRow wr nb (fl fs) ∧ (∀ q, Foot dc mc cs q → q ≠ nb) ∧ nb < wr.heap.size

theorem crash_sum {more : Nat → Int} : ∀ (gs : List FileS), (∀ f ∈ gs, f.safe ≤ f.data.length) → sumF (crashF more gs) ≤ sumF gs
  | [], _ => Nat.le_refl _
  | f :: r, h => by
    have h1 := crZ_le (more := more 0) (h f (List.mem_cons_self ..))
    have ih := crash_sum (more := fun i => more (i + 1)) r fun g hg => h g (List.mem_cons_of_mem _ hg)
    unfold crashF sumF at ih ⊢
    rw [List.mapIdx_cons]
    simp only [List.map_cons, List.sum_cons, List.length_take] at ih ⊢
    omega

theorem sumF_take (gs : List FileS) (k : Nat) : sumF (gs.take k) ≤ sumF gs := by
  have h : sumF gs = sumF (gs.take k) + sumF (gs.drop k) := by
    unfold sumF
    rw [← List.sum_append, ← List.map_append, List.take_append_drop]
  omega

end Go.Proofs.Ytkeopkhbcmeplaa
