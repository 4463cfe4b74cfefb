/-
  claim.Free.
-/
import Derived.Test.YtciknhilbemgdaaClO
namespace Go.Proofs.Ytciknhilbemgdaa.cl
open Go.Proofs.Ytciknhilbemgdaa.tRow Go.RowKit Go.Maps Go.MapKept Go.WideMaps Go.ChangeMaps

/-- the claims without some keys -/
def dels (ks : List L8) (gs : G) : G := gs.filter fun p => !(ks.contains p.1)
theorem dels_nil (gs : G) : dels [] gs = gs := by
  unfold dels
  exact List.filter_eq_self.2 fun p _ => by simp
theorem dels_snoc (ks : List L8) (k : L8) (gs : G) : delG k (dels ks gs) = dels (ks ++ [k]) gs := by
  unfold delG dels
  rw [List.filter_filter]
  refine List.filter_congr fun p _ => ?_
  rw [Bool.eq_iff_iff]
  simp only [List.contains_eq_mem, List.mem_append, List.mem_singleton, Bool.and_eq_true, Bool.not_eq_true', decide_eq_false_iff_not, beq_eq_false_iff_ne, not_or]
  exact ⟨fun h => ⟨h.2, h.1⟩, fun h => ⟨h.2, h.1⟩⟩
def freeG (gs : G) (who : Int) : G := gs.filter fun p => p.2 != who
theorem dels_of {gs : G} (h : RiseG gs) (who : Int) : dels (ofG gs who) gs = freeG gs who := by
  unfold dels freeG
  refine List.filter_congr fun p hp => ?_
  have h1 := (mem_get h).1 (show (p.1, p.2) ∈ gs from hp)
  have h2 := mem_of h (k := p.1) (who := who)
  rw [h1] at h2
  rw [Bool.eq_iff_iff]
  simp only [List.contains_eq_mem, Bool.not_eq_true', decide_eq_false_iff_not, bne_iff_ne]
  rw [h2]
  simp

/-- behind Free -/
def FreeP (B : Nat → Prop) (c n : Nat) (gs : G) (who : Int) (w : World) (e : Ending) (w' : World) : Prop :=
  ∃ v, e = .returned v ∧ Ss w.heap.size w' v ((ofG gs who).map mk8) ∧ CAt B w' c n (freeG gs who) ∧ Kp w w' B

theorem free_nil (w : World) (who : Int) : Calls Try.prog 9 #[.pointer none, .int .i64 who] w fun e w' => e = .returned (.slice none 0 0) ∧ w = w' := by
  have H := of_nil w who
  go_enter Try.func9, Try.ntmps9
  go_wp2_with fail
  refine H.mono ?_
  rintro e w1 ⟨rfl, rfl⟩
  go_wp2
  go_loopw [13] (fun v wr => v = .int .i64 0 ∧ wr = w) (fun _ _ => 0)
  case atStart => exact ⟨rfl, rfl⟩
  case round =>
    obtain ⟨rfl, rfl⟩ := hrel
    go_wp2
    go_ret
    exact ⟨rfl, rfl⟩

set_option maxHeartbeats 4000000 in
set_option maxRecDepth 100000 in
theorem free_any {B : Nat → Prop} {w : World} {c n : Nat} {gs : G} (h : CAt B w c n gs) (hn : gs.length ≤ 100000) (hks : ∀ p ∈ gs, p.1.length ≤ 1000) (who : Int) :
    Calls Try.prog 9 #[.pointer (some ⟨c, 0, none⟩), .int .i64 who] w (FreeP B c n gs who w) := by
  have HO := Lib.hid (of_any h hn who)
  have HH := Lib.hid h
  clear h
  go_enter Try.func9, Try.ntmps9
  go_wp2_with fail
  refine HO.out.mono ?_
  rintro e w1 ⟨v, rfl, hs1, hb1⟩
  obtain ⟨ks, hks0⟩ : ∃ ks, ks = ofG gs who := ⟨_, rfl⟩
  rw [← hks0] at hs1
  have hkl : ks.length ≤ 100000 := by
    rw [hks0]; unfold ofG; rw [List.length_map]
    exact Nat.le_trans (List.length_filter_le _ _) hn
  have HKS := Lib.hid hks0
  have hk1 : ∀ k ∈ ks, k.length ≤ 1000 := fun k hk => by
    rw [hks0] at hk
    unfold ofG at hk
    obtain ⟨p, hp, rfl⟩ := List.mem_map.1 hk
    exact hks p (List.mem_filter.1 hp).1
  obtain ⟨a, k0, rfl⟩ := hs1.form
  have hrow := hs1.srow.2
  rw [List.length_map]
  have HS1 := Lib.hid hs1
  have HB1 := Lib.hid hb1
  have hc1 : CAt B w1 c n gs := HH.out.below hb1 (Nat.le_refl _)
  have HC1 := Lib.hid hc1
  clear hs1 hb1 hks0 HO hc1
  go_wp2
  go_loopw [13] (fun i wr => ∃ j : Nat, j ≤ ks.length ∧ i = .int .i64 j ∧ Hid (CAt B wr c n (dels (ks.take j) gs) ∧ Ss w.heap.size wr (.slice a ks.length k0) (ks.map mk8) ∧ Kp w wr B)) (fun i _ => ks.length - (intOf i).toNat)
  case atStart => exact ⟨0, Nat.zero_le _, rfl, Lib.hid ⟨by rw [List.take_zero, dels_nil]; exact HC1.out, by have := HS1.out; rw [List.length_map] at this; exact this, Kp.ofBelow HB1.out fun q h1 h2 => by omega⟩⟩
  case round =>
    obtain ⟨j, hj, rfl, HR⟩ := hrel
    by_cases hlt : j < ks.length
    · have hlt' : (j : Int) < (ks.length : Int) := by omega
      obtain ⟨hcr, hsr, hkr⟩ := HR.out
      obtain ⟨g, rfl, hgl, hcell⟩ : ∃ g, a = some ⟨g, 0, none⟩ ∧ g < wr.heap.size ∧ wr.cell? ⟨g, j, none⟩ = some (.string (mk8 ks[j])) := by
        rcases hsr.2 with ⟨h1, h2⟩ | ⟨g, cap, cur, h1, h2⟩
        · rw [List.length_map] at h2; omega
        · injection h1 with h1 _ _
          subst h1
          refine ⟨g, rfl, (World.ownsRow.lt hsr g rfl).2, ?_⟩
          have h9 := World.ownsRow.cells hsr (g := g) rfl j (.string (mk8 ks[j])) (by simp [hlt])
          rw [show (⟨g, 0, none⟩ : Addr).add j = ⟨g, j, none⟩ by unfold Addr.add; by_cases h2 : j = 0 <;> simp [h2]] at h9
          exact h9
      obtain ⟨h0, h1, mb, h2, h3⟩ := hcr
      have hc := cell_of_row wr c 0 _ _ (0, 0) h2
      have hksz : (mk8 ks[j]).size ≤ maxLen := by
        have := hk1 ks[j] (List.getElem_mem hlt)
        unfold mk8 maxLen
        simp only [ByteArray.size, List.size_toArray]
        omega
      have hdrop : ∃ w5, ((Builtin.delete_ #[28, 9] 0 #[.map mb, .string (mk8 ks[j])]).run Try.prog wr = .ok (.tuple #[]) w5) ∧ CAt B w5 c n (dels (ks.take (j + 1)) gs) ∧ Ss w.heap.size w5 (.slice (some ⟨g, 0, none⟩) ks.length k0) (ks.map mk8) ∧ Kp wr w5 B := by
        have e9 : delG ks[j] (dels (ks.take j) gs) = dels (ks.take (j + 1)) gs := by
          rw [dels_snoc, List.take_succ_eq_append_getElem hlt]
        rcases h3 with ⟨rfl, h3⟩ | ⟨b, rfl, h4, h5, h6⟩
        · refine ⟨wr, Maps.drop_nil law_s Try.underlying28 (key_s hksz) 0, ⟨by rw [← e9]; exact rise_del _ h0, h1, none, h2, .inl ⟨rfl, by rw [← e9, h3]; rfl⟩⟩, hsr, Kp.refl _ _⟩
        · obtain ⟨w5, hrun5, hm5, hg5⟩ := MapAt.delete (e := 3) h6 Try.underlying9 Try.underlying28 (mk8 ks[j]) hksz 0
          have hgb : g ≠ b := fun e => by
            rcases hsr.2 with ⟨e1, _⟩ | ⟨g', cap, cur, e1, _, e3, _⟩
            · cases e1
            · injection e1 with e1 _ _
              injection e1 with e1
              injection e1 with e1 _ _
              subst e1
              obtain ⟨es, ck, hbb, _⟩ := h6
              rw [← e, e3] at hbb
              injection hbb with hbb
              cases hbb
          refine ⟨w5, hrun5, ⟨by rw [← e9]; exact rise_del _ h0, h1, _, (hg5.block c (Array.getElem?_eq_some_iff.1 h2).1 (by simp [Ne.symm h5])).trans h2, .inr ⟨b, rfl, h4, h5, ?_⟩⟩, ?_, Kp.grown hg5 fun q hq => ?_⟩
          · rw [← e9, ← toV_del]
            have e8 : (mk8 ks[j]).data.toList = ks[j] := by unfold mk8; simp
            rw [e8] at hm5
            exact hm5
          · exact World.ownsRow.kept hsr hg5 (.inr (by simp [Value.ownBlock, hgb]))
          · have := Option.some.inj hq
            rw [← this]; exact h4
      obtain ⟨w5, hrun5, q1, q2, q3⟩ := hdrop
      have HF := Lib.hid (And.intro q1 (And.intro q2 (hkr.trans q3)))
      clear h0 h1 h2 h3 hsr hkr q1 q2 q3 HR hrow
      go_wp2
      go_roundw
      case rel => exact ⟨j + 1, by omega, by go_num, HF⟩
      case measure => simp [intOf]; omega
    · obtain rfl : j = ks.length := by omega
      have HF : Hid (FreeP B c n gs who w (.returned (.slice a ks.length k0)) wr) := Lib.hid (by
        obtain ⟨q1, q2, q3⟩ := HR.out
        rw [List.take_length, HKS.out, dels_of HH.out.1] at q1
        refine ⟨_, rfl, ?_, q1, q3⟩
        rw [← HKS.out]
        exact q2)
      have hge : ¬ (ks.length : Int) < (ks.length : Int) := by omega
      clear HR hrow
      go_wp2
      go_ret
      exact HF.out

end Go.Proofs.Ytciknhilbemgdaa.cl
