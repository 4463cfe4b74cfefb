/-
  disk.Crash, walked.
-/
import Derived.Test.YtkeopkhbcmeplaaDCr2
import Derived.Deep.RegionWith
namespace Go.Proofs.Ytkeopkhbcmeplaa
open Go.RowKit

theorem crash_go {w wr w4 w5 : World} {B d mb n : Nat} {S : DS} {fs : List FP} {more : Nat → Int} {dc mc nb k : Nat} {nn : Nat} {cs : List FP} {v : Value} (hk : k < fs.length) (hfs : fl cs = crashF more ((fl fs).take k)) (hnn : nn ≤ k)
    (f : FileS) (hf : f = ⟨(fs[k]).1.name, (fs[k]).1.data.take (crZ (fs[k]).1.data.length (fs[k]).1.safe (more k)), crZ (fs[k]).1.data.length (fs[k]).1.safe (more k)⟩)
    (hnew : DiskAt wr w.heap.size dc mc nn ⟨S.room, sumP cs, false, 0, false⟩ cs) (hold : DiskAt wr B d mb n S fs) (hb : Below w.heap.size w wr) (hn : NRow wr nb (fl fs)) (hne : ∀ q, Foot dc mc cs q → q ≠ nb) (hlt : nb < wr.heap.size) (hwlt : ∀ q, Foot d mb fs q → q < w.heap.size)
    (hB : Below wr.heap.size wr w4) (hv : ∀ q, v.ownBlock = some q → wr.heap.size ≤ q) (hD : DiskAt w5 w.heap.size dc mc (nn + 1) ⟨S.room, sumP (cs ++ [(f, v)]), false, 0, false⟩ (cs ++ [(f, v)])) (hK : DKept w4 w5 (Foot dc mc cs)) :
    CrRel w w5 B d mb n S fs more dc mc nb (k + 1) := by
  have hz := hb.size
  have hz4 := hB.size
  have hkeep : ∀ q, q < wr.heap.size → ¬ Foot dc mc cs q → w5.heap[q]? = wr.heap[q]? := fun q hq hn => (hK.2.2.2.2 q (by omega) hn).trans (hB.block q hq)
  have hbw5 : Below w.heap.size w w5 := hb.trans (((hB.mono (by omega)).trans (hK.below hnew.foot_ge (by omega))))
  refine ⟨nn + 1, cs ++ [(f, v)], by omega, ?_, hD, ?_, hbw5, fun i hi => ?_, fun q hq => ?_, by have := hK.2.2.2.1; omega⟩
  · rw [crashF_snoc more (fl fs) k (by rw [fl_length]; exact hk), ← hfs]
    unfold fl
    rw [List.map_append, hf]
    simp
  · refine hold.keep fun q hq => hkeep q (hold.foot_lt q hq) fun hc => ?_
    have := hnew.foot_ge q hc
    have := hwlt q hq
    omega
  · have h1 := hn i hi
    have h2 := hkeep nb hlt fun hc => hne nb hc rfl
    rw [← h1]
    exact World.cell?_of_block (w := wr) h2
  · rcases hq with rfl | rfl | ⟨p, hp, hq⟩
    · exact hne _ (.inl rfl)
    · exact hne _ (.inr (.inl rfl))
    · rcases List.mem_append.1 hp with hp | hp
      · exact hne q (.inr (.inr ⟨p, hp, hq⟩))
      · obtain rfl : p = (f, v) := by simpa using hp
        have := hv q hq
        omega

theorem rise_take {fs : List FP} (hr : RiseF (fl fs)) {more : Nat → Int} {cs : List FP} {k : Nat} (hk : k < fs.length) (hfs : fl cs = crashF more ((fl fs).take k)) : ∀ p ∈ cs, bytesBefore p.1.name (fs[k]).1.name = true := fun p hp => by
  have h1 := mem_fl hp
  rw [hfs] at h1
  obtain ⟨g, hg, e⟩ := crashF_name h1
  rw [e]
  have h2 : fl fs = (fl fs).take k ++ ((fl fs).drop k) := (List.take_append_drop k _).symm
  unfold RiseF at hr
  rw [h2] at hr
  have h3 := (List.pairwise_append.1 hr).2.2 g hg ((fs[k]).1) (by
    have hk' : k < (fl fs).length := by rw [fl_length]; exact hk
    rw [List.drop_eq_getElem_cons hk']
    have : (fl fs)[k] = (fs[k]).1 := by simp [fl]
    rw [this]; exact List.mem_cons_self ..)
  exact h3

end Go.Proofs.Ytkeopkhbcmeplaa
