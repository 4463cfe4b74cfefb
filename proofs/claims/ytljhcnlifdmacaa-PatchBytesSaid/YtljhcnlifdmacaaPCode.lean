/-
  patch.Encode: the operations' bytes, or what is wrong with them.
  patch.Encode, at whatever operations.
  What bytes are as operations: plain facts. A reader's state: what is left, or none behind an error.
  octet's Reader by its state: what is left, or none behind an error; one text appended to a row of texts.
  patch.read: one operation, by the reader's state.
  patch.Decode: what bytes are as operations.
-/
import Derived.Test.YtljhcnlifdmacaaPBB
import Derived.Test.YtljhcnlifdmacaaValEnc
import Derived.Test.YtljhcnlifdmacaaLay
import Derived.Test.YtljhcnlifdmacaaRead3
import Derived.Test.YtljhcnlifdmacaaRound
import Derived.Test.YtljhcnlifdmacaaValDecode
import Derived.Test.YtljhcnlifdmacaaTRow
import Derived.Test.YtljhcnlifdmacaaVClone
import Derived.Test.YtljhcnlifdmacaaPSml
import Derived.Deep.CutRange
import Derived.Deep.RegionWith
section
namespace Go.Proofs.Ytljhcnlifdmacaa
open Go.RowKit

/-- an operation's bytes -/
def layP : List ByteArray → L8
  | [] => []
  | s :: r => octT s ++ layP r
def layO (o : PO) : L8 := octN o.kind.toNat ++ (octN o.path.length ++ (layP o.path ++ octT ⟨o.val.lay.toArray⟩))
def layOs : List PO → L8
  | [] => []
  | o :: r => layO o ++ layOs r

theorem layP_append (a b : List ByteArray) : layP (a ++ b) = layP a ++ layP b := by
  induction a with
  | nil => rfl
  | cons s r ih => simp only [List.cons_append, layP, ih, List.append_assoc]
theorem layOs_append (a b : List PO) : layOs (a ++ b) = layOs a ++ layOs b := by
  induction a with
  | nil => rfl
  | cons s r ih => simp only [List.cons_append, layOs, ih, List.append_assoc]
theorem layP_next {p : List ByteArray} {j : Nat} (h : j < p.length) : layP (p.take (j + 1)) = layP (p.take j) ++ octT p[j] := by
  rw [List.take_succ_eq_append_getElem h, layP_append]
  simp [layP]
theorem layOs_next {p : List PO} {j : Nat} (h : j < p.length) : layOs (p.take (j + 1)) = layOs (p.take j) ++ layO p[j] := by
  rw [List.take_succ_eq_append_getElem h, layOs_append]
  simp [layOs]

theorem octT_len (s : ByteArray) (h : s.size ≤ 100000) : (octT s).length ≤ s.size + 9 := by
  have := octN_lt s.size (by omega)
  unfold octT
  rw [List.length_append]
  have e : s.data.toList.length = s.size := by rw [Array.length_toList]; rfl
  omega
theorem layP_len : ∀ (p : List ByteArray), (∀ s ∈ p, s.size ≤ 100000) → (layP p).length ≤ p.length * 100009
  | [], _ => Nat.zero_le _
  | s :: r, h => by
    have h1 := octT_len s (h s (by simp))
    have h2 := h s (by simp)
    have h3 := layP_len r (fun x hx => h x (by simp [hx]))
    rw [layP, List.length_append, List.length_cons]
    omega
/-- an operation whose names and bytes are few -/
def SmO (o : PO) : Prop := (o.val.right 32 = true → o.val.fit) ∧ ∀ s ∈ o.path, s.size ≤ 100000

theorem lay_arr (l : L8) : ByteArray.size ⟨l.toArray⟩ = l.length := by simp [ByteArray.size]
theorem layO_len {o : PO} (h : SmO o) (hr : rightO o = true) (hf : o.val.lay.length ≤ 4096) : (layO o).length ≤ 1700000 := by
  unfold rightO at hr
  simp only [Bool.and_eq_true, decide_eq_true_eq] at hr
  have h1 := layP_len o.path h.2
  have h2 := octT_len ⟨o.val.lay.toArray⟩ (by rw [lay_arr]; omega)
  have hk : o.kind ≤ 3 := by
    have := hr.2.2.1
    unfold fitsO at this
    split at this
    · omega
    · split at this
      · omega
      · split at this
        · omega
        · cases this
  have h3 := octN_lt o.kind.toNat (by omega)
  have h4 := octN_lt o.path.length (by omega)
  rw [lay_arr] at h2
  unfold layO
  simp only [List.length_append]
  omega
theorem layOs_len : ∀ (p : List PO), (∀ o ∈ p, SmO o ∧ rightO o = true ∧ o.val.lay.length ≤ 4096) → (layOs p).length ≤ p.length * 1700000
  | [], _ => Nat.zero_le _
  | o :: r, h => by
    have h1 := layO_len (h o (by simp)).1 (h o (by simp)).2.1 (h o (by simp)).2.2
    have h3 := layOs_len r (fun x hx => h x (by simp [hx]))
    rw [layOs, List.length_append, List.length_cons]
    omega

/-- what Encode answers -/
def encO (ops : List PO) : Value :=
  if checkV ops ≠ 0 then .tuple #[.string ⟨#[]⟩, .int .i64 (checkV ops)]
  else if (ops.all fun o => decide (o.val.lay.length ≤ 4096)) = true then .tuple #[.string ⟨(octN ops.length ++ layOs ops).toArray⟩, .int .i64 0]
  else .tuple #[.string ⟨#[]⟩, .int .i64 1]

theorem check_ok {ops : List PO} (h : checkV ops = 0) : ops.length ≤ 50 ∧ ∀ o ∈ ops, rightO o = true := by
  unfold checkV at h
  split at h
  · omega
  · split at h
    · exact ⟨by omega, fun o ho => List.all_eq_true.1 (by assumption) o ho⟩
    · omega

theorem kind_nat {o : PO} (h : rightO o = true) : ∃ k : Nat, o.kind = k ∧ 1 ≤ k ∧ k ≤ 3 := by
  unfold rightO at h
  simp only [Bool.and_eq_true, decide_eq_true_eq] at h
  have := h.2.2.1
  unfold fitsO at this
  split at this
  · exact ⟨1, by omega, by omega, by omega⟩
  · split at this
    · exact ⟨2, by omega, by omega, by omega⟩
    · split at this
      · exact ⟨3, by omega, by omega, by omega⟩
      · cases this

theorem bs_belowE {E B : Nat} {w W : World} {v : Value} {l : List UInt8} (h : Bs E B w v l) (hb : Below w.heap.size w W) : Bs E B W v l := by
  refine World.ownsRow.kept (row := none) h ⟨hb.os, hb.tape, hb.output, hb.size, fun k hk _ => hb.block k hk⟩ ?_
  by_cases hv : v.ownBlock = none
  · exact .inl hv
  · exact .inr hv

/-- the bytes so far, and the operation's own copy -/
def ESt (w : World) (ob : Nat) (cs : Array Value) (b : Value) (l : L8) (W : World) : Prop :=
  Bs 5 w.heap.size W b l ∧ b.ownBlock ≠ some ob ∧ Box W ob 50 cs ∧ Below w.heap.size w W ∧ w.heap.size ≤ ob

theorem ESt.up {w : World} {ob : Nat} {cs : Array Value} {b b' : Value} {l l' : L8} {W W' : World} (h : ESt w ob cs b l W) (hown : Bs 5 w.heap.size W' b' l') (hup : Up W b W' b') : ESt w ob cs b' l' W' := by
  obtain ⟨h1, h2, h3, h4, h5⟩ := h
  refine ⟨hown, ?_, (hup.1.block ob h3.lt (fun e => h2 e.symm)).trans h3, h4.trans (hup.below h1 h4.size), h5⟩
  rcases hup.2 with e | e
  · rw [e]; exact h2
  · intro e2
    have h6 := e _ e2
    have h7 := h3.lt
    omega

theorem ESt.below {w : World} {ob : Nat} {cs : Array Value} {b : Value} {l : L8} {W W' : World} (h : ESt w ob cs b l W) (hb : Below W.heap.size W W') : ESt w ob cs b l W' := by
  obtain ⟨h1, h2, h3, h4, h5⟩ := h
  exact ⟨bs_belowE h1 hb, h2, (hb.block _ h3.lt).trans h3, h4.trans (hb.mono h4.size), h5⟩

end Go.Proofs.Ytljhcnlifdmacaa
end

section
namespace Go.Proofs.Ytljhcnlifdmacaa
open Go.RowKit

set_option maxHeartbeats 4000000 in
set_option maxRecDepth 100000 in
theorem encode_any (ops : List PO) (a : Option Addr) (c : Nat) (w : World) (h : OpsAt w All a ops) (hl : ops.length ≤ 100000) (hsm : ∀ o ∈ ops, SmO o) :
    Calls Try.prog 27 #[.slice a ops.length c] w fun e w' => e = .returned (encO ops) ∧ Below w.heap.size w w' := by
  have hchk := check_any ops a c w h hl
  by_cases hc0 : checkV ops = 0
  · rw [hc0] at hchk
    obtain ⟨h50, hri⟩ := check_ok hc0
    have hE : encO ops = if (ops.all fun o => decide (o.val.lay.length ≤ 4096)) = true then .tuple #[.string ⟨(octN ops.length ++ layOs ops).toArray⟩, .int .i64 0] else .tuple #[.string ⟨#[]⟩, .int .i64 1] := by unfold encO; rw [hc0]; simp
    have HE := Lib.hid hE
    have HO := Lib.hid h
    have HRI := Lib.hid (And.intro hri hsm)
    have CV := Lib.hid (fun (B : Nat) (w' : World) (v : Value) (l : List UInt8) (h : Bs 5 B w' v l) => conv_bs (P := Try.prog) 5 B w' 79 9 Try.underlying79 Try.underlying5 Try.underlying9 v l h)
    clear h hE hri hsm hc0
    go_enter Try.func27, Try.ntmps27
    go_wp2_with fail
    refine hchk.mono ?_
    rintro e w1 ⟨rfl, hb1⟩
    have hnum := num_nat w.heap.size (.slice none 0 0) [] ops.length (by omega) w1 (by simp) hb1.size (Bs.nil _ _ _)
    have HNUM := Lib.hid hnum
    have HB1 := Lib.hid hb1
    clear hchk hb1 hnum
    go_wp2_with fail
    refine HNUM.out.mono ?_
    rintro e w2 ⟨b2, rfl, hown2, hup2⟩
    rw [List.nil_append] at hown2
    have H2 : Hid (Bs 5 w.heap.size w2 b2 (octN ops.length) ∧ Below w.heap.size w w2) := Lib.hid ⟨hown2, HB1.out.trans (hup2.below (Bs.nil 5 w.heap.size w1) HB1.out.size)⟩
    clear hown2 hup2 HNUM HB1
    go_wp2_with fail
    go_loopw [5, 22] (fun b i wr => ∃ k : Nat, k ≤ ops.length ∧ i = .int .i64 k ∧ Hid (Bs 5 w.heap.size wr b (octN ops.length ++ layOs (ops.take k)) ∧ Below w.heap.size w wr ∧ ∀ j (h : j < ops.length), j < k → (ops[j]).val.lay.length ≤ 4096)) (fun _ i _ => ops.length - (intOf i).toNat)
    case atStart => exact ⟨0, Nat.zero_le _, rfl, Lib.hid ⟨by rw [List.take_zero]; simpa [layOs] using H2.out.1, H2.out.2, fun j _ hj => by omega⟩⟩
    case round =>
      obtain ⟨k, hk, rfl, HR⟩ := hrel
      clear H2
      by_cases hlt : k < ops.length
      · obtain ⟨bb, off, rfl, hb, hops⟩ := HO.out.resolve_left (by intro e; rw [e] at hlt; simp at hlt)
        obtain ⟨pa, pc, oa, oc, ob, od, hin0, hpl, hpt, hat0⟩ := hops k hlt
        have hin := hin0.keep (HR.out.2.1.block bb hb)
        have hat := V.At.below hat0 HR.out.2.1
        have hro := HRI.out.1 _ (List.getElem_mem hlt)
        have hso := HRI.out.2 _ (List.getElem_mem hlt)
        have hnx := layOs_next hlt
        have hprev : (layOs (ops.take k)).length ≤ k * 1700000 := by
          have := layOs_len (ops.take k) (fun o ho => by
            obtain ⟨i, hi, rfl⟩ := List.getElem_of_mem ho
            rw [List.length_take] at hi
            rw [List.getElem_take]
            exact ⟨HRI.out.2 _ (List.getElem_mem _), HRI.out.1 _ (List.getElem_mem _), HR.out.2.2 i (by omega) (by omega)⟩)
          rw [List.length_take, Nat.min_eq_left hk] at this
          exact this
        have hnext : (ops[k]).val.lay.length ≤ 4096 → ∀ j (h : j < ops.length), j < k + 1 → (ops[j]).val.lay.length ≤ 4096 := fun hp j h hj => by
          by_cases e : j = k
          · subst e; exact hp
          · exact HR.out.2.2 j h (by omega)
        have hstop : ¬ (ops[k]).val.lay.length ≤ 4096 → encO ops = .tuple #[.string ⟨#[]⟩, .int .i64 1] := fun hp => by
          rw [HE.out, if_neg]
          intro hall
          exact hp (of_decide_eq_true (List.all_eq_true.1 hall _ (List.getElem_mem hlt)))
        obtain ⟨o, ho⟩ : ∃ o, o = ops[k] := ⟨_, rfl⟩
        rw [← ho] at hin hpl hpt hat hro hso hnx hnext hstop
        obtain ⟨kn, hkn, hk1, hk3⟩ := kind_nat hro
        have hright : o.val.right 32 = true ∧ o.path.length ≤ 16 := by
          unfold rightO at hro
          simp only [Bool.and_eq_true, decide_eq_true_eq] at hro
          exact ⟨hro.2.2.2, hro.2.1⟩
        rw [hkn] at hin
        obtain ⟨p0, p1, p2, p3, p4, p5, p6, p7⟩ := hin.eight
        have hkl : (k : Int) < (ops.length : Int) := by omega
        obtain ⟨cs, hcs⟩ : ∃ cs : Array Value, cs = #[.int .i64 kn, .slice pa o.path.length pc, .int .i64 o.val.kind, .bool o.val.yes, .int .i64 o.val.num, .string o.val.text, .slice oa o.val.list.length oc, .slice ob o.val.fields.length od] := ⟨_, rfl⟩
        have hA : Below wr.heap.size wr (wr.alloc (.cells cs 50)) := (Below.refl _ wr).alloc (Nat.le_refl _) _
        have hcall := enc_any o.val _ _ _ (V.At.below hat hA) hso.1
        have hES : ESt w wr.heap.size cs u5 (octN ops.length ++ layOs (ops.take k)) (wr.alloc (.cells cs 50)) := ⟨bs_belowE HR.out.1 hA, fun e => by have := World.ownsRow.lt HR.out.1 _ e; omega, Box.new wr _ _, HR.out.2.1.trans (hA.mono HR.out.2.1.size), HR.out.2.1.size⟩
        have HLT := Lib.hid hlt
        have HES := Lib.hid hES
        have hon := octN_lt ops.length (by omega)
        by_cases hfit : o.val.lay.length ≤ 4096
        · have he : encOf o.val = .tuple #[.string ⟨o.val.lay.toArray⟩, .int .i64 0] := by unfold encOf; rw [if_pos hright.1, if_pos hfit]
          rw [he] at hcall
          have hlN : ∀ j ≤ o.path.length, ((octN ops.length ++ layOs (ops.take k)) ++ octN kn ++ octN o.path.length ++ layP (o.path.take j)).length ≤ 100000000 := fun j hj => by
            have h1 := octN_lt kn (by omega)
            have h2 := octN_lt o.path.length (by omega)
            have h3 := layP_len (o.path.take j) (fun s hs => hso.2 s (List.mem_of_mem_take hs))
            rw [List.length_take, Nat.min_eq_left hj] at h3
            simp only [List.length_append]
            omega
          have hfin : ((octN ops.length ++ layOs (ops.take k)) ++ octN kn ++ octN o.path.length ++ layP o.path) ++ octT ⟨o.val.lay.toArray⟩ = octN ops.length ++ layOs (ops.take (k + 1)) := by
            rw [hnx, layO, show o.kind.toNat = kn by omega]
            simp only [List.append_assoc]
          have hts : ByteArray.size ⟨o.val.lay.toArray⟩ ≤ 4096 := by rw [lay_arr]; exact hfit
          obtain ⟨tx, htx⟩ : ∃ tx : ByteArray, tx = ⟨o.val.lay.toArray⟩ := ⟨_, rfl⟩
          rw [← htx] at hcall hfin hts
          obtain ⟨l0, hl0⟩ : ∃ l0, l0 = octN ops.length ++ layOs (ops.take k) := ⟨_, rfl⟩
          have hl0s : l0.length ≤ 100000000 := by rw [hl0, List.length_append]; omega
          rw [← hl0] at HES hlN hfin
          have HN := Lib.hid (hnext hfit)
          have HLN := Lib.hid hlN
          have HFIN := Lib.hid hfin
          have HPT := Lib.hid (And.intro hpt hso.2)
          subst hcs
          have HCALL := Lib.hid hcall
          clear hcall hin0 hin hat0 hat hops hnx hprev hnext hstop ho hro hso hkn hlt hES he hlN hfin htx hl0 hfit hA hpt HR
          go_wp2_with fail
          refine HCALL.out.mono ?_
          rintro e w4 ⟨rfl, hb4⟩
          have hE4 := HES.out.below hb4
          have HNUM := Lib.hid (num_nat w.heap.size u5 l0 kn (by omega) w4 (by omega) hE4.2.2.2.1.size hE4.1)
          obtain ⟨p0, p1, p2, p3, p4, p5, p6, p7⟩ := hE4.2.2.1.eight
          have HE4 := Lib.hid hE4
          clear hb4 hE4 HES HCALL
          go_wp2_with fail
          refine HNUM.out.mono ?_
          rintro e w5 ⟨b5, rfl, hown5, hup5⟩
          have hE5 := HE4.out.up hown5 hup5
          have hk9 := octN_lt kn (by omega)
          have HNUM2 := Lib.hid (num_nat w.heap.size b5 (l0 ++ octN kn) o.path.length (by omega) w5 (by rw [List.length_append]; omega) hE5.2.2.2.1.size hE5.1)
          clear p0 p1 p2 p3 p4 p5 p6 p7
          obtain ⟨p0, p1, p2, p3, p4, p5, p6, p7⟩ := hE5.2.2.1.eight
          have HE5 := Lib.hid hE5
          clear hown5 hup5 hE5 HE4 HNUM hk9
          go_wp2_with fail
          refine HNUM2.out.mono ?_
          rintro e w6 ⟨b6, rfl, hown6, hup6⟩
          have hE6 := HE5.out.up hown6 hup6
          clear p0 p1 p2 p3 p4 p5 p6 p7
          obtain ⟨p0, p1, p2, p3, p4, p5, p6, p7⟩ := hE6.2.2.1.eight
          have HE6 := Lib.hid hE6
          clear hown6 hup6 hE6 HE5 HNUM2
          go_wp2_with fail
          go_loopw [5, 46] (fun b i wx => ∃ j : Nat, j ≤ o.path.length ∧ i = .int .i64 j ∧ Hid (ESt w wr.heap.size #[.int .i64 kn, .slice pa o.path.length pc, .int .i64 o.val.kind, .bool o.val.yes, .int .i64 o.val.num, .string o.val.text, .slice oa o.val.list.length oc, .slice ob o.val.fields.length od] b ((l0 ++ octN kn ++ octN o.path.length) ++ layP (o.path.take j)) wx)) (fun _ i _ => o.path.length - (intOf i).toNat)
          case atStart => exact ⟨0, Nat.zero_le _, rfl, Lib.hid (by rw [List.take_zero, layP, List.append_nil]; exact HE6.out)⟩
          case round =>
            obtain ⟨j, hj, rfl, HI⟩ := hrel
            by_cases hjl : j < o.path.length
            · have hjl' : (j : Int) < (o.path.length : Int) := by omega
              obtain ⟨pb, poff, epa, hst⟩ := HPT.out.1.resolve_left (by intro e; rw [e] at hjl; simp at hjl)
              subst epa
              have hstx := hst.below HI.out.2.2.2.1
              have hc := hstx.2 j hjl
              have hpb := hstx.1
              have hsz := HPT.out.2 _ (List.getElem_mem hjl)
              have hnx := layP_next hjl
              obtain ⟨sx, hsx⟩ : ∃ s, s = o.path[j] := ⟨_, rfl⟩
              rw [← hsx] at hc hsz hnx
              have HTX := Lib.hid (text_any w.heap.size u5 ((l0 ++ octN kn ++ octN o.path.length) ++ layP (o.path.take j)) sx _ (by have := HLN.out j hj; omega) HI.out.2.2.2.1.size HI.out.1)
              have HJL := Lib.hid hjl
              have HNX := Lib.hid hnx
              clear hst hstx hnx hsx hjl hsz
              go_wp2_with fail
              refine HTX.out.mono ?_
              rintro e w7 ⟨b7, rfl, hown7, hup7⟩
              have HX := Lib.hid (HI.out.up hown7 hup7)
              clear hown7 hup7 HTX HI
              go_wp2_with fail
              go_roundw
              case rel => exact ⟨j + 1, HJL.out, by have := HJL.out; go_num, Lib.hid (by rw [HNX.out, ← List.append_assoc]; exact HX.out)⟩
              case measure => have := HJL.out; simp [intOf]; omega
            · obtain rfl : j = o.path.length := by omega
              have hge : ¬ (o.path.length : Int) < (o.path.length : Int) := by omega
              have hst := HI.out
              rw [List.take_of_length_le (Nat.le_refl _)] at hst
              have HTX := Lib.hid (text_any w.heap.size u5 ((l0 ++ octN kn ++ octN o.path.length) ++ layP o.path) tx _ (by have := HLN.out o.path.length (Nat.le_refl _); rw [List.take_of_length_le (Nat.le_refl _)] at this; omega) hst.2.2.2.1.size hst.1)
              have HST := Lib.hid hst
              clear hst hjl HI
              go_wp2_with fail
              refine HTX.out.mono ?_
              rintro e w8 ⟨b8, rfl, hown8, hup8⟩
              have HX : Hid (Bs 5 w.heap.size w8 b8 (octN ops.length ++ layOs (ops.take (k + 1))) ∧ Below w.heap.size w w8 ∧ ∀ j (h : j < ops.length), j < k + 1 → (ops[j]).val.lay.length ≤ 4096) := Lib.hid ⟨by rw [← HFIN.out]; exact hown8, (HST.out.up hown8 hup8).2.2.2.1, HN.out⟩
              clear hown8 hup8 HTX HST
              go_wp2_with fail
              go_roundw
              case rel => exact ⟨k + 1, HLT.out, by have := HLT.out; go_num, HX⟩
              case measure => have := HLT.out; simp [intOf]; omega
        · have he : encOf o.val = .tuple #[.string ⟨#[]⟩, .int .i64 4] := by unfold encOf; rw [if_pos hright.1, if_neg hfit]
          rw [he] at hcall
          have HB1 := Lib.hid hES.2.2.2.1
          have HST := Lib.hid (hstop hfit)
          subst hcs
          have HCALL := Lib.hid hcall
          clear hcall hin0 hin hat0 hat hops hnx hprev hnext hstop ho hro hso hkn hlt hES he hfit hA hpt HR HES
          go_wp2_with fail
          refine HCALL.out.mono ?_
          rintro e w4 ⟨rfl, hb4⟩
          have HF := Lib.hid (HB1.out.trans (hb4.mono HB1.out.size))
          clear hb4
          go_wp2
          go_ret2
          exact ⟨by rw [HST.out]; rfl, HF.out⟩
      · obtain rfl : k = ops.length := by omega
        have hge : ¬ (ops.length : Int) < (ops.length : Int) := by omega
        have hbs := HR.out.1
        rw [List.take_of_length_le (Nat.le_refl _)] at hbs
        have hz : encO ops = .tuple #[.string ⟨(octN ops.length ++ layOs ops).toArray⟩, .int .i64 0] := by
          rw [HE.out, if_pos]
          exact List.all_eq_true.2 fun x hx => by
            obtain ⟨j, hj, rfl⟩ := List.getElem_of_mem hx
            exact decide_eq_true (HR.out.2.2 j hj hj)
        obtain ⟨l, hl2⟩ : ∃ l, l = octN ops.length ++ layOs ops := ⟨_, rfl⟩
        rw [← hl2] at hbs hz
        obtain ⟨a2, c2, hv⟩ := hbs.lenEq
        subst hv
        have hcv := CV.out _ _ _ _ hbs
        have HZ := Lib.hid hz
        clear hlt hz hbs hl2
        go_wp2
        go_ret2
        exact ⟨by rw [HZ.out]; rfl, HR.out.2.1⟩
  · have h14 : checkV ops = 4 ∨ checkV ops = 1 := by
      unfold checkV at hc0 ⊢
      split
      · exact .inl rfl
      · rename_i h50
        rw [if_neg h50] at hc0
        split
        · rename_i hall
          rw [if_pos hall] at hc0
          exact absurd rfl hc0
        · exact .inr rfl
    have hE : encO ops = .tuple #[.string ⟨#[]⟩, .int .i64 (checkV ops)] := by unfold encO; rw [if_pos hc0]
    clear h hc0
    rcases h14 with h14 | h14
    all_goals
      rw [h14] at hchk hE
      have HE := Lib.hid hE
      clear hE h14
      go_enter Try.func27, Try.ntmps27
      go_wp2_with fail
      refine hchk.mono ?_
      rintro e w1 ⟨rfl, hb1⟩
      clear hchk
      go_wp2
      go_ret2
      exact ⟨by rw [HE.out]; rfl, hb1⟩

end Go.Proofs.Ytljhcnlifdmacaa
end

section
namespace Go.Proofs.Ytljhcnlifdmacaa

abbrev St := Option L8

def numS (st : St) (M : Nat) : Nat × St := match st with
  | none => (0, none)
  | some l => match numRead l M with
    | none => (0, none)
    | some (n, r) => (n, some r)
def textS (st : St) (M : Nat) : L8 × St := match st with
  | none => ([], none)
  | some l => match textRead l M with
    | none => ([], none)
    | some (t, r) => (t, some r)
/-- so many names -/
def pathS : Nat → St → List ByteArray × St
  | 0, st => ([], st)
  | j + 1, st => ((pathS j st).1 ++ [⟨(textS (pathS j st).2 4096).1.toArray⟩], (textS (pathS j st).2 4096).2)
/-- an operation, if it is one; and the state behind it -/
def readS (st : St) : Option PO × St :=
  let k := numS st 3
  let n := numS k.2 16
  let p := pathS n.1 n.2
  let t := textS p.2 4096
  (match decOf t.1 with
    | .inl _ => none
    | .inr v => if rightO ⟨(k.1 : Int), p.1, v⟩ = true then some ⟨(k.1 : Int), p.1, v⟩ else none, t.2)
/-- so many operations -/
def opsS : Nat → St → Option (List PO × St)
  | 0, st => some ([], st)
  | n + 1, st => match opsS n st with
    | none => none
    | some (os, s) => match readS s with
      | (none, _) => none
      | (some o, s') => some (os ++ [o], s')
/-- what Decode answers -/
def decS (st : St) : List PO × Int := match opsS (numS st 50).1 (numS st 50).2 with
  | none => ([], 2)
  | some (os, some _) => (os, 0)
  | some (os, none) => (os, 2)

theorem numS_ext {l r : L8} {M n : Nat} (h : numS (some l) M = (n, some r)) (x : L8) : numS (some (l ++ x)) M = (n, some (r ++ x)) := by
  unfold numS at h
  simp only at h
  cases hr : numRead l M with
  | none => rw [hr] at h; simp at h
  | some p =>
    obtain ⟨n', r'⟩ := p
    rw [hr] at h
    simp only [Prod.mk.injEq, Option.some.injEq] at h
    obtain ⟨rfl, rfl⟩ := h
    obtain ⟨hl, hb⟩ := numRead_back hr
    have hM := (numRead_len hr).2
    unfold numS
    simp only
    rw [hl, List.append_assoc, numRead_laid _ _ _ hb, if_pos hM]

theorem textS_ext {l r t : L8} {M : Nat} (hM : M < 2 ^ 64) (h : textS (some l) M = (t, some r)) (x : L8) : textS (some (l ++ x)) M = (t, some (r ++ x)) := by
  unfold textS at h
  simp only at h
  cases hr : textRead l M with
  | none => rw [hr] at h; simp at h
  | some p =>
    obtain ⟨t', r'⟩ := p
    rw [hr] at h
    simp only [Prod.mk.injEq, Option.some.injEq] at h
    obtain ⟨rfl, rfl⟩ := h
    obtain ⟨hl, ht⟩ := textRead_back hr
    unfold textS
    simp only
    have e := textRead_laid ⟨t'.toArray⟩ M (r' ++ x) (by rw [lay_arr]; omega)
    rw [if_pos (by rw [lay_arr]; exact ht)] at e
    have e2 : l ++ x = octT ⟨t'.toArray⟩ ++ (r' ++ x) := by
      rw [hl]
      unfold octT
      rw [lay_arr]
      simp
    rw [e2, e]

theorem pathS_none : ∀ n, (pathS n none).2 = none
  | 0 => rfl
  | n + 1 => by
    show (textS (pathS n none).2 4096).2 = none
    rw [pathS_none n]
    rfl

theorem pathS_ext : ∀ (n : Nat) {l r : L8} {p : List ByteArray}, pathS n (some l) = (p, some r) → ∀ x, pathS n (some (l ++ x)) = (p, some (r ++ x))
  | 0, l, r, p, h, x => by
    simp only [pathS, Prod.mk.injEq, Option.some.injEq] at h ⊢
    exact ⟨h.1, by rw [h.2]⟩
  | n + 1, l, r, p, h, x => by
    simp only [pathS, Prod.mk.injEq] at h
    obtain ⟨h1, h2⟩ := h
    obtain ⟨q, hq⟩ : ∃ q, q = pathS n (some l) := ⟨_, rfl⟩
    obtain ⟨q1, q2⟩ := q
    rw [← hq] at h1 h2
    cases q2 with
    | none => cases h2
    | some m =>
      have ih := pathS_ext n hq.symm x
      obtain ⟨t, ht⟩ : ∃ t, t = textS (some m) 4096 := ⟨_, rfl⟩
      obtain ⟨t1, t2⟩ := t
      simp only at h1 h2
      rw [← ht] at h1 h2
      have h2 : t2 = some r := h2
      subst h2
      have e := textS_ext (by omega) ht.symm x
      simp only [pathS, ih, e]
      rw [← h1]

theorem dec_empty : ∃ c, decOf [] = .inl c := ⟨2, rfl⟩

theorem readS_ext {l : L8} {o : PO} {s : St} (h : readS (some l) = (some o, s)) : ∃ r, s = some r ∧ ∀ x, readS (some (l ++ x)) = (some o, some (r ++ x)) := by
  unfold readS at h
  simp only [Prod.mk.injEq] at h
  obtain ⟨k, hk⟩ : ∃ k, k = numS (some l) 3 := ⟨_, rfl⟩
  obtain ⟨k1, k2⟩ := k
  rw [← hk] at h
  obtain ⟨n, hn⟩ : ∃ n, n = numS k2 16 := ⟨_, rfl⟩
  obtain ⟨n1, n2⟩ := n
  simp only at h
  rw [← hn] at h
  obtain ⟨p, hp⟩ : ∃ p, p = pathS n1 n2 := ⟨_, rfl⟩
  obtain ⟨p1, p2⟩ := p
  simp only at h
  rw [← hp] at h
  obtain ⟨t, ht⟩ : ∃ t, t = textS p2 4096 := ⟨_, rfl⟩
  obtain ⟨t1, t2⟩ := t
  simp only at h
  rw [← ht] at h
  simp only at h
  obtain ⟨h1, h2⟩ := h
  cases t2 with
  | none =>
    exfalso
    have : t1 = [] := by
      unfold textS at ht
      cases p2 with
      | none => simp at ht; exact ht
      | some m =>
        simp only at ht
        cases hr : textRead m 4096 with
        | none => rw [hr] at ht; simp at ht; exact ht
        | some q => rw [hr] at ht; simp at ht
    rw [this] at h1
    cases h1
  | some r =>
    refine ⟨r, h2.symm, fun x => ?_⟩
    cases p2 with
    | none => cases ht
    | some m =>
      cases n2 with
      | none => have := pathS_none n1; rw [← hp] at this; cases this
      | some m2 =>
        cases k2 with
        | none => cases hn
        | some m3 =>
          unfold readS
          rw [numS_ext hk.symm x]
          simp only
          rw [numS_ext hn.symm x]
          simp only
          rw [pathS_ext n1 hp.symm x]
          simp only
          rw [textS_ext (by omega) ht.symm x]
          simp only
          rw [h1]

theorem opsS_ext : ∀ (n : Nat) {l : L8} {os : List PO} {s : St}, opsS n (some l) = some (os, s) → ∃ r, s = some r ∧ ∀ x, opsS n (some (l ++ x)) = some (os, some (r ++ x))
  | 0, l, os, s, h => by
    simp only [opsS, Option.some.injEq, Prod.mk.injEq] at h
    obtain ⟨rfl, rfl⟩ := h
    exact ⟨l, rfl, fun x => rfl⟩
  | n + 1, l, os, s, h => by
    rw [opsS] at h
    cases ho : opsS n (some l) with
    | none => rw [ho] at h; cases h
    | some q =>
      obtain ⟨os', s'⟩ := q
      obtain ⟨r', rfl, hx⟩ := opsS_ext n ho
      rw [ho] at h
      simp only at h
      cases hr : readS (some r') with
      | mk a s2 =>
        rw [hr] at h
        cases a with
        | none => cases h
        | some o =>
          obtain ⟨r2, rfl, hx2⟩ := readS_ext hr
          simp only [Option.some.injEq, Prod.mk.injEq] at h
          obtain ⟨rfl, rfl⟩ := h
          exact ⟨r2, rfl, fun x => by rw [opsS, hx x]; simp only; rw [hx2 x]⟩

/-- what may be laid -/
def Layable (o : PO) : Prop := rightO o = true ∧ o.val.lay.length ≤ 4096 ∧ o.val.n64 ∧ ∀ s ∈ o.path, s.size ≤ 4096

theorem numS_laid {m M : Nat} (h : m ≤ M) (hm : m < 2 ^ 64) (x : L8) : numS (some (octN m ++ x)) M = (m, some x) := by
  unfold numS
  simp only
  rw [numRead_laid _ _ _ hm, if_pos h]

theorem textS_laid {s : ByteArray} (h : s.size ≤ 4096) (x : L8) : textS (some (octT s ++ x)) 4096 = (s.data.toList, some x) := by
  unfold textS
  simp only
  rw [textRead_laid _ _ _ (by omega), if_pos h]

theorem pathS_laid {p : List ByteArray} (h : ∀ s ∈ p, s.size ≤ 4096) (x : L8) : ∀ j, j ≤ p.length → pathS j (some (layP p ++ x)) = (p.take j, some (layP (p.drop j) ++ x))
  | 0, _ => rfl
  | j + 1, hj => by
    have ih := pathS_laid h x j (by omega)
    have hd : p.drop j = p[j] :: p.drop (j + 1) := List.drop_eq_getElem_cons (by omega)
    simp only [pathS, ih]
    rw [hd, layP, List.append_assoc, textS_laid (h _ (List.getElem_mem _))]
    rw [List.take_succ_eq_append_getElem (by omega)]

theorem readS_laid {o : PO} (h : Layable o) (x : L8) : readS (some (layO o ++ x)) = (some o, some x) := by
  obtain ⟨hr, hl, hn, hp⟩ := h
  obtain ⟨kn, hkn, hk1, hk3⟩ := kind_nat hr
  have hr2 := hr
  unfold rightO at hr2
  simp only [Bool.and_eq_true, decide_eq_true_eq] at hr2
  have hd : decOf o.val.lay = .inr o.val := by
    unfold decOf
    rw [if_neg (by omega)]
    have := decV_laid 32 o.val [] hr2.2.2.2 hn hl
    rw [List.append_nil] at this
    rw [this]
  unfold readS layO
  rw [show o.kind.toNat = kn by omega, List.append_assoc, numS_laid hk3 (by omega)]
  simp only
  rw [List.append_assoc, numS_laid hr2.2.1 (by omega)]
  simp only
  rw [List.append_assoc, pathS_laid hp _ _ (Nat.le_refl _), List.take_of_length_le (Nat.le_refl _), List.drop_of_length_le (Nat.le_refl _)]
  simp only [layP, List.nil_append]
  rw [textS_laid (by rw [lay_arr]; exact hl)]
  simp only
  rw [hd]
  simp only
  rw [← hkn, if_pos hr]

theorem opsS_laid {ops : List PO} (h : ∀ o ∈ ops, Layable o) (x : L8) : ∀ j, j ≤ ops.length → opsS j (some (layOs ops ++ x)) = some (ops.take j, some (layOs (ops.drop j) ++ x))
  | 0, _ => rfl
  | j + 1, hj => by
    have ih := opsS_laid h x j (by omega)
    have hd : ops.drop j = ops[j] :: ops.drop (j + 1) := List.drop_eq_getElem_cons (by omega)
    rw [opsS, ih]
    simp only
    rw [hd, layOs, List.append_assoc, readS_laid (h _ (List.getElem_mem _))]
    simp only
    rw [List.take_succ_eq_append_getElem (by omega)]

/-- all of them -/
theorem dec_laid {ops : List PO} (h : ∀ o ∈ ops, Layable o) (h50 : ops.length ≤ 50) : opsS (numS (some (octN ops.length ++ layOs ops)) 50).1 (numS (some (octN ops.length ++ layOs ops)) 50).2 = some (ops, some []) := by
  have h1 := numS_laid h50 (by omega) (layOs ops)
  have h2 := opsS_laid h [] ops.length (Nat.le_refl _)
  rw [h1]
  simp only
  rw [List.append_nil] at h2
  rw [h2, List.take_of_length_le (Nat.le_refl _), List.drop_of_length_le (Nat.le_refl _)]
  rfl

/-- and cut off anywhere, none -/
theorem dec_cut {ops : List PO} (h : ∀ o ∈ ops, Layable o) (h50 : ops.length ≤ 50) {k : Nat} (hk : k < (octN ops.length ++ layOs ops).length) : decS (some ((octN ops.length ++ layOs ops).take k)) = ([], 2) := by
  obtain ⟨l, hl⟩ : ∃ l, l = octN ops.length ++ layOs ops := ⟨_, rfl⟩
  have hall := dec_laid h h50
  rw [← hl] at hk hall ⊢
  have hsplit : l.take k ++ l.drop k = l := List.take_append_drop k l
  unfold decS
  obtain ⟨n, hn⟩ : ∃ n, n = numS (some (l.take k)) 50 := ⟨_, rfl⟩
  obtain ⟨n1, n2⟩ := n
  rw [← hn]
  cases n2 with
  | none =>
    have : n1 = 0 := by
      unfold numS at hn
      simp only at hn
      cases hr : numRead (l.take k) 50 with
      | none => rw [hr] at hn; simp at hn; exact hn
      | some q => rw [hr] at hn; simp at hn
    rw [this]
    rfl
  | some r1 =>
    have e1 := numS_ext hn.symm (l.drop k)
    rw [hsplit] at e1
    rw [e1] at hall
    simp only at hall ⊢
    cases ho : opsS n1 (some r1) with
    | none => rfl
    | some q =>
      exfalso
      obtain ⟨os, s⟩ := q
      obtain ⟨r, rfl, hx⟩ := opsS_ext n1 ho
      rw [hx] at hall
      simp only [Option.some.injEq, Prod.mk.injEq] at hall
      have h3 := (List.append_eq_nil_iff.1 hall.2).2
      rw [List.drop_eq_nil_iff] at h3
      omega

end Go.Proofs.Ytljhcnlifdmacaa
end

section
namespace Go.Proofs.Ytljhcnlifdmacaa
open Go.RowKit

def RS (w : World) (b : Nat) : St → Prop
  | some l => Rd w b ⟨l.toArray⟩ false
  | none => Rd w b ⟨#[]⟩ true

/-- from w to w': the reader goes to a state, and but for new blocks nothing else turns -/
def GS (w : World) (b : Nat) (st : St) (w' : World) : Prop := RS w' b st ∧ w.grownBy w' (some b)

theorem RS.lt {w : World} {b : Nat} {st : St} (h : RS w b st) : b < w.heap.size := by
  cases st with
  | some l => exact Rd.lt h
  | none => exact Rd.lt h
theorem RS.keep {w w' : World} {b : Nat} {st : St} (h : RS w b st) (hb : w'.heap[b]? = w.heap[b]?) : RS w' b st := by
  cases st with
  | some l => exact hb.trans h
  | none => exact hb.trans h
theorem GS.refl {w : World} {b : Nat} {st : St} (h : RS w b st) : GS w b st w := ⟨h, World.grownBy.refl w _⟩
theorem GS.trans {w w1 w2 : World} {b : Nat} {st st' : St} (h : GS w b st w1) (k : GS w1 b st' w2) : GS w b st' w2 := ⟨k.1, grown_trans h.2 k.2 (.inl rfl)⟩
theorem GS.below {w w1 w2 : World} {b : Nat} {st : St} (h : GS w b st w1) (k : Below w1.heap.size w1 w2) : GS w b st w2 :=
  ⟨h.1.keep (k.block b h.1.lt), ⟨k.os.trans h.2.os, k.tape.trans h.2.tape, k.output.trans h.2.output, Nat.le_trans h.2.size k.size, fun j hj hne => (k.block j (Nat.lt_of_lt_of_le hj h.2.size)).trans (h.2.block j hj hne)⟩⟩
theorem GS.frame {w w' : World} {b B : Nat} {st : St} (h : GS w b st w') (hB : B ≤ w.heap.size) (hb : B ≤ b) : Below B w w' :=
  (Below.refl B w).grown h.2 hB fun k hk => by simp at hk; omega
/-- what stands elsewhere -/
theorem GS.other {w w' : World} {b g : Nat} {st : St} (h : GS w b st w') (hg : g < w.heap.size) (hne : g ≠ b) : w'.heap[g]? = w.heap[g]? :=
  h.2.block g hg (fun e => hne (Option.some.inj e))

def stLen (st : St) : Prop := ∀ l, st = some l → l.length ≤ 281474976710656

theorem num_s (b : Nat) (st : St) (most : Int) (M : Nat) (hm : most = (M : Int)) (hM : M ≤ 9223372036854775807) (w : World) (h : RS w b st) :
    Calls Try.prog 50 #[.pointer (some ⟨b, 0, none⟩), .int .i64 most] w fun e w' => e = .returned (.int .i64 ((numS st M).1 : Int)) ∧ GS w b (numS st M).2 w' := by
  subst hm
  cases st with
  | none =>
    refine (num_fail b _ w h).mono ?_
    rintro e w' ⟨rfl, hg⟩
    exact ⟨rfl, hg.1, hg.2⟩
  | some l =>
    refine (num_read b false l (M : Int) (by omega) w h).mono ?_
    rw [Int.toNat_natCast]
    rintro e w' (⟨ho, rfl, hg⟩ | ⟨n, r, ho, rfl, hg⟩)
    · unfold numS
      simp only
      rw [ho]
      exact ⟨rfl, hg.1, hg.2⟩
    · unfold numS
      simp only
      rw [ho]
      exact ⟨rfl, hg.1, hg.2⟩

theorem text_s (b : Nat) (st : St) (hl : stLen st) (w : World) (h : RS w b st) :
    Calls Try.prog 77 #[.pointer (some ⟨b, 0, none⟩), .int .i64 4096] w fun e w' => e = .returned (.string ⟨(textS st 4096).1.toArray⟩) ∧ GS w b (textS st 4096).2 w' := by
  cases st with
  | none =>
    refine (text_fail b _ w h).mono ?_
    rintro e w' ⟨rfl, hg⟩
    exact ⟨rfl, hg.1, hg.2⟩
  | some l =>
    refine (text_read b false l (hl l rfl) 4096 (by omega) w h).mono ?_
    rw [show (4096 : Int).toNat = 4096 from rfl]
    rintro e w' (⟨ho, rfl, hg⟩ | ⟨t, r, ho, rfl, hg⟩)
    · unfold textS
      simp only
      rw [ho]
      exact ⟨rfl, hg.1, hg.2⟩
    · unfold textS
      simp only
      rw [ho]
      exact ⟨rfl, hg.1, hg.2⟩

theorem numS_len {st : St} {M : Nat} (h : stLen st) : stLen (numS st M).2 := by
  intro r hr
  cases st with
  | none => cases hr
  | some l =>
    unfold numS at hr
    simp only at hr
    cases hn : numRead l M with
    | none => rw [hn] at hr; cases hr
    | some q =>
      rw [hn] at hr
      simp only [Option.some.injEq] at hr
      have := (numRead_len (r := q.2) (n := q.1) hn).1
      have := h l rfl
      rw [← hr]
      omega

theorem textS_len {st : St} {M : Nat} (h : stLen st) : stLen (textS st M).2 ∧ (textS st M).1.length ≤ M := by
  refine ⟨fun r hr => ?_, ?_⟩
  · cases st with
    | none => cases hr
    | some l =>
      unfold textS at hr
      simp only at hr
      cases hn : textRead l M with
      | none => rw [hn] at hr; cases hr
      | some q =>
        rw [hn] at hr
        simp only [Option.some.injEq] at hr
        obtain ⟨t, r2⟩ := q
        have h1 := (textRead_back hn).1
        have h2 := h l rfl
        have h3 := congrArg List.length h1
        simp only [List.length_append] at h3
        rw [← hr]
        simp only
        omega
  · cases st with
    | none => exact Nat.zero_le _
    | some l =>
      unfold textS
      simp only
      cases hn : textRead l M with
      | none => exact Nat.zero_le _
      | some q => exact (textRead_back (t := q.1) (r := q.2) hn).2

theorem pathS_len {st : St} (h : stLen st) : ∀ n, stLen (pathS n st).2
  | 0 => h
  | n + 1 => (textS_len (pathS_len h n)).1

theorem pathS_count (st : St) : ∀ n, (pathS n st).1.length = n
  | 0 => rfl
  | n + 1 => by
    show ((pathS n st).1 ++ _).length = n + 1
    rw [List.length_append, pathS_count st n]
    rfl

set_option maxRecDepth 100000 in
/-- one text appended to a row that the call owns -/
theorem run_app_t {B : Nat} {w : World} {v : Value} {ps : List ByteArray} (h : tRow.Ss B w v ps) (hB : B ≤ w.heap.size) (hn : ps.length ≤ 100000) (t : ByteArray) :
    ∃ v' w', (Builtin.append_ #[48, 48] 48 #[v, .slice (some ⟨w.heap.size, 0, none⟩) 1 1]).run Try.prog (w.alloc (.cells #[.string t] 9)) = .ok v' w' ∧ tRow.Ss B w' v' (ps ++ [t]) ∧ Up w v w' v' := by
  obtain ⟨i, hi, hz, hi1, hi2⟩ := info_parts tRow.infoS
  have hb := Box.new w 9 #[.string t]
  obtain ⟨v', w', hr, ho', hu⟩ := run_app (P := Try.prog) (w.alloc (.cells #[.string t] 9)) B 48 48 9 i (.string ⟨#[]⟩) 1 16 Try.underlying48 hi hz hi1 hi2 rfl (by decide) v ps.length (ps.map Value.string) (World.ownsRow.alloc h _)
    ⟨w.heap.size, 0, none⟩ 1 1 [.string t] rfl (fun j u hj => by
      have e : ((⟨w.heap.size, 0, none⟩ : Addr).add j) = ⟨w.heap.size, j, none⟩ := by unfold Addr.add; by_cases h0 : j = 0 <;> simp [h0]
      rw [e, hb.cell]
      simpa using hj) (by intro u hu; simp at hu; subst hu; rfl) (by unfold maxLen; omega) (by omega) (by simp; omega)
  refine ⟨v', w', hr, ?_, hu.alloc⟩
  unfold tRow.Ss
  rw [List.map_append, List.length_append]
  exact ho'

end Go.Proofs.Ytljhcnlifdmacaa
end

section
namespace Go.Proofs.Ytljhcnlifdmacaa
open Go.RowKit

/-- what lies so far: the result's box, the operation's box, its path -/
def RO (w : World) (b ob : Nat) (k : Nat) (st : St) (v : Value) (ps : List ByteArray) (W : World) : Prop :=
  b < w.heap.size ∧ RS W b st ∧ w.grownBy W (some b) ∧ Box W w.heap.size 50 #[.int .i64 0, .slice none 0 0, .int .i64 0, .bool false, .int .i64 0, .string ⟨#[]⟩, .slice none 0 0, .slice none 0 0] ∧
    w.heap.size < ob ∧ Box W ob 50 #[.int .i64 k, v, .int .i64 0, .bool false, .int .i64 0, .string ⟨#[]⟩, .slice none 0 0, .slice none 0 0] ∧ tRow.Ss (ob + 1) W v ps

/-- the reader goes on -/
theorem RO.reader {w : World} {b ob k : Nat} {st st' : St} {v : Value} {ps : List ByteArray} {W W' : World} (h : RO w b ob k st v ps W) (hg : GS W b st' W') : RO w b ob k st' v ps W' := by
  obtain ⟨h1, h2, h3, h4, h5, h6, h7⟩ := h
  refine ⟨h1, hg.1, grown_trans h3 hg.2 (.inl rfl), (hg.other h4.lt (by omega)).trans h4, h5, (hg.other h6.lt (by omega)).trans h6, World.ownsRow.kept h7 hg.2 ?_⟩
  by_cases hv : v.ownBlock = none
  · exact .inl hv
  · refine .inr fun e => ?_
    have := (World.ownsRow.lt h7 b e).1
    omega

theorem RO.below {w : World} {b ob k : Nat} {st : St} {v : Value} {ps : List ByteArray} {W W' : World} (h : RO w b ob k st v ps W) (hb : Below W.heap.size W W') : RO w b ob k st v ps W' := by
  obtain ⟨h1, h2, h3, h4, h5, h6, h7⟩ := h
  refine ⟨h1, h2.keep (hb.block _ h2.lt), (GS.below ⟨h2, h3⟩ hb).2, (hb.block _ h4.lt).trans h4, h5, (hb.block _ h6.lt).trans h6, ?_⟩
  refine World.ownsRow.kept (row := none) h7 ⟨hb.os, hb.tape, hb.output, hb.size, fun k hk _ => hb.block k hk⟩ ?_
  by_cases hv : v.ownBlock = none
  · exact .inl hv
  · exact .inr hv

/-- the path has one name more -/
theorem RO.app {w : World} {b ob k : Nat} {st : St} {v v' : Value} {ps ps' : List ByteArray} {W W' : World} (h : RO w b ob k st v ps W) (hs : tRow.Ss (ob + 1) W' v' ps') (hu : Up W v W' v') : RO w b ob k st v' ps' (W'.setCell ⟨ob, 1, none⟩ v') := by
  obtain ⟨h1, h2, h3, h4, h5, h6, h7⟩ := h
  have hown : ∀ q, v.ownBlock = some q → ob + 1 ≤ q := fun q e => (World.ownsRow.lt h7 q e).1
  have hblk : ∀ q, q < W.heap.size → q ≤ ob → W'.heap[q]? = W.heap[q]? := fun q hq hle => hu.1.block q hq (fun e => by have := hown q e.symm; omega)
  have g1 : w.grownBy W' (some b) := grown_trans h3 hu.1 (.inr fun q e => by have := hown q e; omega)
  refine ⟨h1, (h2.keep (hblk b h2.lt (by omega))).keep (Below.heap_setCell W' ⟨ob, 1, none⟩ v' b (by show b ≠ ob; omega)), grown_trans g1 (grown_setCell W' ob 1 v') (.inr fun q e => by have := Option.some.inj e; omega), ?_, h5, ?_, ?_⟩
  · exact Box.setFar ((hblk _ h4.lt (by omega)).trans h4) (by show w.heap.size ≠ ob; omega) _
  · exact Box.setSame ((hblk ob h6.lt (Nat.le_refl _)).trans h6) 1 v'
  · refine World.ownsRow.kept hs (grown_setCell W' ob 1 v') ?_
    by_cases hv : v'.ownBlock = none
    · exact .inl hv
    · refine .inr fun e => ?_
      have := (World.ownsRow.lt hs ob e).1
      omega

theorem numS_le (st : St) (M : Nat) : (numS st M).1 ≤ M := by
  cases st with
  | none => exact Nat.zero_le _
  | some l =>
    unfold numS
    simp only
    cases hn : numRead l M with
    | none => exact Nat.zero_le _
    | some q => exact (numRead_len (n := q.1) (r := q.2) hn).2

/-- an operation that lies in blocks from B on -/
def OpNew (W : World) (B : Nat) (o : PO) (pa : Option Addr) (pc : Nat) (oa : Option Addr) (oc : Nat) (ob : Option Addr) (od : Nat) : Prop :=
  (o.path.length ≤ pc ∧ pc ≤ maxLen) ∧ (o.path = [] ∨ ∃ pb poff, pa = some ⟨pb, poff, none⟩ ∧ B ≤ pb ∧ StrAt W pb poff o.path) ∧ o.val.At W (fun q => B ≤ q) (.slice oa o.val.list.length oc) (.slice ob o.val.fields.length od)

def opAgg (o : PO) (pa : Option Addr) (pc : Nat) (oa : Option Addr) (oc : Nat) (ob : Option Addr) (od : Nat) : Value :=
  .agg #[.int .i64 o.kind, .slice pa o.path.length pc, .int .i64 o.val.kind, .bool o.val.yes, .int .i64 o.val.num, .string o.val.text, .slice oa o.val.list.length oc, .slice ob o.val.fields.length od]

def ReadP (q : Option PO × St) (b : Nat) (w : World) (e : Ending) (w' : World) : Prop :=
  GS w b q.2 w' ∧ ((q.1 = none ∧ e = .returned (.tuple #[.agg #[.int .i64 0, .slice none 0 0, .int .i64 0, .bool false, .int .i64 0, .string ⟨#[]⟩, .slice none 0 0, .slice none 0 0], .int .i64 2])) ∨
    ∃ o pa pc oa oc ob od, q.1 = some o ∧ e = .returned (.tuple #[opAgg o pa pc oa oc ob od, .int .i64 0]) ∧ OpNew w' w.heap.size o pa pc oa oc ob od)

theorem box_sets26 {w : World} {b : Nat} {T : TypeId} {z0 z1 z2 z3 z4 z5 z6 z7 : Value} (h : Box w b T #[z0, z1, z2, z3, z4, z5, z6, z7]) (c0 c1 c2 c3 c4 c5 : Value) : Box (sets w b 2 [c0, c1, c2, c3, c4, c5]) b T #[z0, z1, c0, c1, c2, c3, c4, c5] := by
  have h1 := Box.sets [c0, c1, c2, c3, c4, c5] 2 h
  simpa [aset] using h1
theorem box_sets08 {w : World} {b : Nat} {T : TypeId} {z0 z1 z2 z3 z4 z5 z6 z7 : Value} (h : Box w b T #[z0, z1, z2, z3, z4, z5, z6, z7]) (c0 c1 c2 c3 c4 c5 c6 c7 : Value) : Box (sets w b 0 [c0, c1, c2, c3, c4, c5, c6, c7]) b T #[c0, c1, c2, c3, c4, c5, c6, c7] := by
  have h1 := Box.sets [c0, c1, c2, c3, c4, c5, c6, c7] 0 h
  simpa [aset] using h1

theorem sets_grown {g : Nat} : ∀ (cs : List Value) (w : World) (b : Nat), w.grownBy (sets w g b cs) (some g)
  | [], w, _ => World.grownBy.refl w _
  | c :: cs, w, b => grown_trans (grown_setCell w g b c) (sets_grown cs _ (b + 1)) (.inl rfl)

theorem StrAt.keepH {w w' : World} {b off : Nat} {ss : List ByteArray} (h : StrAt w b off ss) (hb : w'.heap[b]? = w.heap[b]?) : StrAt w' b off ss := by
  refine ⟨?_, fun i hi => (World.cell?_of_block (a := ⟨b, off + i, none⟩) hb).trans (h.2 i hi)⟩
  have h1 := h.1
  rw [Array.getElem?_eq_getElem h1] at hb
  exact (Array.getElem?_eq_some_iff.1 hb).1

theorem ss_path {B : Nat} {w : World} {a : Option Addr} {n c : Nat} {ps : List ByteArray} (h : tRow.Ss B w (.slice a n c) ps) : (ps.length ≤ c ∧ c ≤ maxLen) ∧ (ps = [] ∨ ∃ pb poff, a = some ⟨pb, poff, none⟩ ∧ B ≤ pb ∧ StrAt w pb poff ps) := by
  rcases h.2 with ⟨hv, h0⟩ | ⟨g, cap, cur, hv, h1, h2, h3, h4, _⟩
  · injection hv with e1 e2 e3
    subst e3
    exact ⟨⟨by omega, by unfold maxLen; omega⟩, .inl (List.eq_nil_of_length_eq_zero h0)⟩
  · have hs := h.srow.2
    injection hv with e1 e2 e3
    subst e3
    refine ⟨⟨by first | exact h3 | exact h4 | omega, by first | exact h4 | exact h3 | omega⟩, ?_⟩
    rcases hs with hs | ⟨b, off, e, hlt, hc⟩
    · exact .inl hs
    · rw [e1] at e
      injection e with e
      injection e with eb eo
      subst eb
      exact .inr ⟨g, off, by rw [e1, eo], h1, hlt, hc⟩

theorem decOf_ne {l : L8} {er : Int} (h : decOf l = .inl er) : er ≠ 0 := by
  unfold decOf at h
  split at h
  · injection h with h; omega
  · split at h
    · rename_i e hd
      injection h with h
      have := decV_err 32 l e hd
      omega
    · cases h
    · injection h with h; omega

/-- Decode, its answer in one form -/
theorem dec_s (t : L8) (w : World) : Calls Try.prog 32 #[.string ⟨t.toArray⟩] w fun e w' => ∃ (x : V) (la : Option Addr) (lc : Nat) (fa : Option Addr) (fc : Nat) (er : Int),
    e = .returned (.tuple #[.agg #[.int .i64 x.kind, .bool x.yes, .int .i64 x.num, .string x.text, .slice la x.list.length lc, .slice fa x.fields.length fc], .int .i64 er]) ∧ x.At w' (fun q => w.heap.size ≤ q) (.slice la x.list.length lc) (.slice fa x.fields.length fc) ∧ Below w.heap.size w w' ∧ ((er ≠ 0 ∧ ∃ c, decOf t = .inl c) ∨ (er = 0 ∧ decOf t = .inr x)) := by
  refine (decode_any _ t rfl w).mono ?_
  rintro e w' ⟨hb, ⟨er, hd, rfl⟩ | ⟨v, lv, fv, hd, rfl, hat⟩⟩
  · exact ⟨V.null, none, 0, none, 0, er, rfl, none_at _ _ V.null rfl rfl, hb, .inl ⟨decOf_ne hd, er, hd⟩⟩
  · obtain ⟨⟨la, lc, rfl⟩, ⟨fa, fc, rfl⟩, _, _⟩ := hat.is.len
    exact ⟨v, la, lc, fa, fc, 0, rfl, hat, hb, .inr ⟨rfl, hd⟩⟩

/-- the operation with its value -/
def RQ (w : World) (b ob : Nat) (k : Nat) (st : St) (p : List ByteArray) (x : V) (pa : Option Addr) (pc : Nat) (la : Option Addr) (lc : Nat) (fa : Option Addr) (fc : Nat) (W : World) : Prop :=
  GS w b st W ∧ Box W w.heap.size 50 #[.int .i64 0, .slice none 0 0, .int .i64 0, .bool false, .int .i64 0, .string ⟨#[]⟩, .slice none 0 0, .slice none 0 0] ∧ (b < w.heap.size ∧ w.heap.size < ob) ∧ Box W ob 50 #[.int .i64 (k : Int), .slice pa p.length pc, .int .i64 x.kind, .bool x.yes, .int .i64 x.num, .string x.text, .slice la x.list.length lc, .slice fa x.fields.length fc] ∧ (p.length ≤ pc ∧ pc ≤ maxLen) ∧
    (p = [] ∨ ∃ pb poff, pa = some ⟨pb, poff, none⟩ ∧ ob < pb ∧ StrAt W pb poff p) ∧ x.At W (fun q => ob < q) (.slice la x.list.length lc) (.slice fa x.fields.length fc)

theorem RO.val {w : World} {b ob k : Nat} {st : St} {p : List ByteArray} {pa : Option Addr} {pc : Nat} {W W5 : World} {x : V} {la : Option Addr} {lc : Nat} {fa : Option Addr} {fc : Nat} (h : RO w b ob k st (.slice pa p.length pc) p W) (hb : Below W.heap.size W W5)
    (hat : x.At W5 (fun q => W.heap.size ≤ q) (.slice la x.list.length lc) (.slice fa x.fields.length fc)) : RQ w b ob k st p x pa pc la lc fa fc (sets W5 ob 2 [.int .i64 x.kind, .bool x.yes, .int .i64 x.num, .string x.text, .slice la x.list.length lc, .slice fa x.fields.length fc]) := by
  have hobW := h.2.2.2.2.2.1.lt
  obtain ⟨h1, h2, h3, h4, h5, h6, h7⟩ := h.below hb
  obtain ⟨g1, g2⟩ := ss_path h7
  refine ⟨⟨h2.keep (sets_far _ _ _ _ (by omega)), grown_trans h3 (sets_grown _ _ _) (.inr fun q e => by have := Option.some.inj e; omega)⟩, (sets_far _ _ _ _ (by omega)).trans h4, ⟨h1, h5⟩, box_sets26 h6 _ _ _ _ _ _, g1, g2.imp id fun ⟨pb, poff, e, hle, hs⟩ => ⟨pb, poff, e, by omega, hs.keepH (sets_far _ _ _ _ (by omega))⟩, ?_⟩
  exact V.At.move (fun q hq _ => ⟨by omega, sets_far _ _ _ _ (by omega)⟩) (by rw [sets_size]; exact Nat.le_refl _) _ (Nat.le_refl _) hat

theorem RQ.below {w : World} {b ob k : Nat} {st : St} {p : List ByteArray} {x : V} {pa : Option Addr} {pc : Nat} {la : Option Addr} {lc : Nat} {fa : Option Addr} {fc : Nat} {W W' : World} (h : RQ w b ob k st p x pa pc la lc fa fc W) (hb : Below W.heap.size W W') : RQ w b ob k st p x pa pc la lc fa fc W' := by
  obtain ⟨h1, h2, h3, h4, h5, h6, h7⟩ := h
  exact ⟨h1.below hb, (hb.block _ h2.lt).trans h2, h3, (hb.block _ h4.lt).trans h4, h5, h6.imp id fun ⟨pb, poff, e, hle, hs⟩ => ⟨pb, poff, e, hle, hs.below hb⟩, h7.below hb⟩

/-- what is told: the result's box holds whatever cells, the operation lies in new blocks -/
theorem RQ.back {w : World} {b ob k : Nat} {st : St} {p : List ByteArray} {x : V} {pa : Option Addr} {pc : Nat} {la : Option Addr} {lc : Nat} {fa : Option Addr} {fc : Nat} {W : World} (h : RQ w b ob k st p x pa pc la lc fa fc W) (cs : List Value) :
    GS w b st (sets W w.heap.size 0 cs) ∧ OpNew (sets W w.heap.size 0 cs) w.heap.size ⟨(k : Int), p, x⟩ pa pc la lc fa fc := by
  obtain ⟨h1, h2, h3, h4, h5, h6, h7⟩ := h
  refine ⟨⟨h1.1.keep (sets_far _ _ _ _ (by omega)), grown_trans h1.2 (sets_grown _ _ _) (.inr fun q e => by have := Option.some.inj e; omega)⟩, h5, h6.imp id fun ⟨pb, poff, e, hle, hs⟩ => ⟨pb, poff, e, by omega, hs.keepH (sets_far _ _ _ _ (by omega))⟩, ?_⟩
  exact V.At.move (fun q hq _ => ⟨by omega, sets_far _ _ _ _ (by omega)⟩) (by rw [sets_size]; exact Nat.le_refl _) _ (Nat.le_refl _) h7

attribute [-go_sem] Builtin.append_

set_option maxHeartbeats 8000000 in
set_option maxRecDepth 100000 in
theorem read_op (b : Nat) (st : St) (hl : stLen st) (w : World) (h : RS w b st) :
    Calls Try.prog 51 #[.pointer (some ⟨b, 0, none⟩)] w (ReadP (readS st) b w) := by
  have hA0 : Below w.heap.size w (w.alloc (.cells #[.int .i64 0, .slice none 0 0, .int .i64 0, .bool false, .int .i64 0, .string ⟨#[]⟩, .slice none 0 0, .slice none 0 0] 50)) := (Below.refl _ w).alloc (Nat.le_refl _) _
  have hn1 := num_s b st 3 3 rfl (by omega) _ (h.keep (hA0.block b h.lt))
  have hl1 := numS_len (M := 3) hl
  obtain ⟨q, hq⟩ : ∃ q, q = readS st := ⟨_, rfl⟩
  rw [← hq]
  unfold readS at hq
  simp only at hq
  obtain ⟨k, hk⟩ : ∃ k, k = (numS st 3).1 := ⟨_, rfl⟩
  obtain ⟨s1, hs1⟩ : ∃ s, s = (numS st 3).2 := ⟨_, rfl⟩
  simp only [← hk, ← hs1] at hn1 hl1 hq
  have hbx := Box.new w 50 #[.int .i64 0, .slice none 0 0, .int .i64 0, .bool false, .int .i64 0, .string ⟨#[]⟩, .slice none 0 0, .slice none 0 0]
  have H0 := Lib.hid (And.intro h.lt (And.intro hA0 (And.intro hbx (And.intro hl1 (GS.below (GS.refl h) hA0)))))
  have HN := Lib.hid hn1
  have HPOST := Lib.hid hq
  clear hn1 hl1 hq hk hs1 hbx hA0 h hl
  go_enter Try.func51, Try.ntmps51
  go_wp2_with fail
  refine HN.out.mono ?_
  rintro e w2 ⟨rfl, hg2⟩
  have hgw2 := H0.out.2.2.2.2.trans hg2
  have hbx2 : Box w2 w.heap.size 50 #[.int .i64 0, .slice none 0 0, .int .i64 0, .bool false, .int .i64 0, .string ⟨#[]⟩, .slice none 0 0, .slice none 0 0] := (hg2.other H0.out.2.2.1.lt (by have := H0.out.1; omega)).trans H0.out.2.2.1
  have hA2 : Below w2.heap.size w2 (w2.alloc (.cells #[.int .i64 (k : Int), .slice none 0 0, .int .i64 0, .bool false, .int .i64 0, .string ⟨#[]⟩, .slice none 0 0, .slice none 0 0] 50)) := (Below.refl _ w2).alloc (Nat.le_refl _) _
  have hn2 := num_s b s1 16 16 rfl (by omega) _ (hgw2.below hA2).1
  have hl2 := numS_len (M := 16) H0.out.2.2.2.1
  have hle := numS_le s1 16
  have hq := HPOST.out
  obtain ⟨n, hn⟩ : ∃ k, k = (numS s1 16).1 := ⟨_, rfl⟩
  obtain ⟨s2, hs2⟩ : ∃ s, s = (numS s1 16).2 := ⟨_, rfl⟩
  simp only [← hn, ← hs2] at hn2 hl2 hq hle
  have hro2 : RO w b w2.heap.size k s1 (.slice none 0 0) [] (w2.alloc (.cells #[.int .i64 (k : Int), .slice none 0 0, .int .i64 0, .bool false, .int .i64 0, .string ⟨#[]⟩, .slice none 0 0, .slice none 0 0] 50)) :=
    ⟨H0.out.1, (hgw2.below hA2).1, (hgw2.below hA2).2, hbx2.alloc _, hbx2.lt, Box.new w2 _ _, tRow.ss_nil _ _⟩
  have HRO2 := Lib.hid hro2
  have HN2 := Lib.hid hn2
  have HL2 := Lib.hid hl2
  have HP2 := Lib.hid hq
  clear hg2 hgw2 hbx2 hA2 hn2 hl2 hq hn hs2 hro2 HN HPOST H0
  go_wp2_with fail
  refine HN2.out.mono ?_
  rintro e w3 ⟨rfl, hg3⟩
  have HRO3 : Hid (∃ v, RO w b w2.heap.size k (pathS 0 s2).2 v (pathS 0 s2).1 w3) := Lib.hid ⟨_, HRO2.out.reader hg3⟩
  clear hg3 HN2 HRO2
  go_wp2_with fail
  go_loopw [12] (fun i wr => ∃ j : Nat, j ≤ n ∧ i = .int .i64 j ∧ Hid (∃ v, RO w b w2.heap.size k (pathS j s2).2 v (pathS j s2).1 wr)) (fun i _ => n - (intOf i).toNat)
  case atStart => exact ⟨0, Nat.zero_le _, rfl, HRO3⟩
  case round =>
    clear HRO3
    obtain ⟨j, hj, rfl, HR⟩ := hrel
    obtain ⟨v, hro⟩ := HR.out
    by_cases hlt : j < n
    · have hlt' : (j : Int) < (n : Int) := by omega
      obtain ⟨va, vc, hv⟩ := tRow.Ss.form hro.2.2.2.2.2.2
      rw [pathS_count] at hv
      subst hv
      have hrd := hro.below ((Below.refl _ wr).drew)
      have HT := Lib.hid (text_s b (pathS j s2).2 (pathS_len HL2.out j) wr.drew hrd.2.1)
      have hbx := hro.2.2.2.2.2.1
      obtain ⟨p0, p1, p2, p3, p4, p5, p6, p7⟩ := hbx.eight
      have hpl := hbx.lt
      have HRD := Lib.hid hrd
      have HLT := Lib.hid hlt
      clear hro hrd hbx hlt HR
      go_wp2_with fail
      go_region_with ((go_at_call 77
                       refine HT.out.mono ?_
                       rintro e w5 ⟨rfl, hg5⟩
                       have hr5 := HRD.out.reader hg5
                       obtain ⟨v', w6, hr, hs6, hu6⟩ := run_app_t hr5.2.2.2.2.2.2 hr5.2.2.2.2.2.1.lt (by rw [pathS_count]; omega) ⟨(textS (pathS j s2).2 4096).1.toArray⟩
                       obtain ⟨pa, pc, hv'⟩ := tRow.Ss.form hs6
                       rw [show ((pathS j s2).1 ++ [(⟨(textS (pathS j s2).2 4096).1.toArray⟩ : ByteArray)]).length = j + 1 by rw [List.length_append, pathS_count]; rfl] at hv'
                       subst hv'
                       have HE : Hid (∃ v, RO w b w2.heap.size k (pathS (j + 1) s2).2 v (pathS (j + 1) s2).1 (w6.setCell ⟨w2.heap.size, 1, none⟩ (.slice pa (j + 1) pc))) := Lib.hid ⟨_, hr5.app hs6 hu6⟩
                       have hbx5 := hr5.2.2.2.2.2.1
                       have hbx6 : Box w6 w2.heap.size 50 _ := (hu6.1.block _ hbx5.lt (fun e => by have := (World.ownsRow.lt hr5.2.2.2.2.2.2 _ e.symm).1; omega)).trans hbx5
                       obtain ⟨q0, q1, q2, q3, q4, q5, q6, q7⟩ := hbx5.eight
                       have hql := hbx5.lt
                       obtain ⟨m0, m1, m2, m3, m4, m5, m6, m7⟩ := hbx6.eight
                       have hml := hbx6.lt
                       have hmf := Box.free hbx6 1
                       clear hg5 hr5 hs6 hu6 hbx5 hbx6))
      all_goals
        go_wp2_with fail
        go_roundw
        case rel => exact ⟨j + 1, HLT.out, by have := HLT.out; go_num, HE⟩
        case measure => have := HLT.out; simp [intOf]; omega
    · obtain rfl : j = n := by omega
      have hge : ¬ (j : Int) < (j : Int) := by omega
      have hq := HP2.out
      have hlen := pathS_count s2 j
      have hpl := pathS_len HL2.out j
      obtain ⟨p, hp⟩ : ∃ p, p = (pathS j s2).1 := ⟨_, rfl⟩
      obtain ⟨s3, hs3⟩ : ∃ s, s = (pathS j s2).2 := ⟨_, rfl⟩
      simp only [← hp, ← hs3] at hro hlen hpl hq
      obtain ⟨va, vc, hv⟩ := tRow.Ss.form hro.2.2.2.2.2.2
      subst hv
      have hT := text_s b s3 hpl wr hro.2.1
      obtain ⟨t, ht⟩ : ∃ t, t = (textS s3 4096).1 := ⟨_, rfl⟩
      obtain ⟨s4, hs4⟩ : ∃ s, s = (textS s3 4096).2 := ⟨_, rfl⟩
      simp only [← ht, ← hs4] at hT hq
      have HQ := Lib.hid hq
      have HT := Lib.hid hT
      have HRO := Lib.hid hro
      clear hq hT hro hlt hp hs3 hlen hpl ht hs4 HR HP2
      go_wp2_with fail
      refine HT.out.mono ?_
      rintro e w4 ⟨rfl, hg4⟩
      have HRO4 := Lib.hid (HRO.out.reader hg4)
      have HD := Lib.hid (dec_s t w4)
      clear hg4 HT HRO
      go_wp2_with fail
      refine HD.out.mono ?_
      rintro e w5 ⟨x, la, lc, fa, fc, er, rfl, hat, hb5, her⟩
      have hval := (HRO4.out.val hb5 hat).below ((Below.refl _ _).alloc (Nat.le_refl _) (.cells #[.int .i64 x.kind, .bool x.yes, .int .i64 x.num, .string x.text, .slice la x.list.length lc, .slice fa x.fields.length fc] 26))
      simp only [sets, Nat.reduceAdd] at hval
      have HV := Lib.hid hval
      have HER := Lib.hid her
      have hbx5 := (HRO4.out.below hb5).2.2.2.2.2.1
      obtain ⟨z0, z1, z2, z3, z4, z5, z6, z7⟩ := hbx5.eight
      have hzl := hbx5.lt
      have hzf := Box.free hbx5
      clear hval her hbx5 hat hb5 HD HRO4
      go_upto_region 7 with (fail)
      go_cut [28] (fun _ wx => Hid (RQ w b w2.heap.size k s4 p x va vc la lc fa fc wx))
      case first =>
        go_wp2_with fail
        go_meet
        exact HV
      case rest =>
        clear z0 z1 z2 z3 z4 z5 z6 z7 hzl hzf HV
        have HC : Hid (RQ w b w2.heap.size k s4 p x va vc la lc fa fc wc) := hcut
        clear hcut
        have hbx := HC.out.2.2.2.1
        obtain ⟨y0, y1, y2, y3, y4, y5, y6, y7⟩ := hbx.eight
        have hyl := hbx.lt
        rcases HER.out with ⟨hne, c, hd⟩ | ⟨he0, hd⟩
        · have hq := HQ.out
          rw [hd] at hq
          have hqe : q = (none, s4) := hq
          have HQE := Lib.hid hqe
          have g1 : (er != 0) = true := by simpa using hne
          clear hq hqe hd hne HQ HER hbx y0 y1 y2 y3 y4 y5 y6 y7 hyl
          have hz := HC.out.2.1
          obtain ⟨z0, z1, z2, z3, z4, z5, z6, z7⟩ := hz.eight
          have hzl := hz.lt
          have hzf := Box.free hz
          have hend := box_sets08 hz (.int .i64 0) (.slice none 0 0) (.int .i64 0) (.bool false) (.int .i64 0) (.string ⟨#[]⟩) (.slice none 0 0) (.slice none 0 0)
          have hfin := HC.out.back [.int .i64 0, .slice none 0 0, .int .i64 0, .bool false, .int .i64 0, .string ⟨#[]⟩, .slice none 0 0, .slice none 0 0]
          obtain ⟨m0, m1, m2, m3, m4, m5, m6, m7⟩ := hend.eight
          simp only [sets, Nat.zero_add, Nat.reduceAdd] at m0 m1 m2 m3 m4 m5 m6 m7 hfin
          have HFIN := Lib.hid hfin
          clear hz hend hfin
          go_wp2
          exact bodyPost_ret (v := .tuple #[.agg #[.int .i64 0, .slice none 0 0, .int .i64 0, .bool false, .int .i64 0, .string ⟨#[]⟩, .slice none 0 0, .slice none 0 0], .int .i64 2]) (by simp [results, Try.results51, go_sem, m0, m1, m2, m3, m4, m5, m6, m7]) rfl ⟨by rw [HQE.out]; exact HFIN.out.1, .inl ⟨by rw [HQE.out], rfl⟩⟩
        · subst he0
          have hr : Calls Try.prog 22 #[.agg #[.int .i64 (k : Int), .slice va p.length vc, .int .i64 x.kind, .bool x.yes, .int .i64 x.num, .string x.text, .slice la x.list.length lc, .slice fa x.fields.length fc]] wc (fun e w' => e = .returned (.bool (rightO ⟨(k : Int), p, x⟩)) ∧ Below wc.heap.size wc w') := opright_any ⟨(k : Int), p, x⟩ va vc la lc fa fc wc HC.out.2.2.2.2.2.2.is (Nat.le_trans HC.out.2.2.2.2.1.1 HC.out.2.2.2.2.1.2)
          have hq := HQ.out
          rw [hd] at hq
          simp only at hq
          cases hrb : rightO ⟨(k : Int), p, x⟩ with
          | false =>
            rw [hrb] at hr hq
            have hqe : q = (none, s4) := hq
            have HQE := Lib.hid hqe
            have HR := Lib.hid hr
            clear hq hqe hr hrb hd HQ HER hbx
            go_wp2_with fail
            refine HR.out.mono ?_
            rintro e w6 ⟨rfl, hb6⟩
            have HC6 := Lib.hid (HC.out.below hb6)
            clear y0 y1 y2 y3 y4 y5 y6 y7 hyl hb6 HR HC
            have hz := HC6.out.2.1
            obtain ⟨z0, z1, z2, z3, z4, z5, z6, z7⟩ := hz.eight
            have hzl := hz.lt
            have hzf := Box.free hz
            have hend := box_sets08 hz (.int .i64 0) (.slice none 0 0) (.int .i64 0) (.bool false) (.int .i64 0) (.string ⟨#[]⟩) (.slice none 0 0) (.slice none 0 0)
            have hfin := HC6.out.back [.int .i64 0, .slice none 0 0, .int .i64 0, .bool false, .int .i64 0, .string ⟨#[]⟩, .slice none 0 0, .slice none 0 0]
            obtain ⟨m0, m1, m2, m3, m4, m5, m6, m7⟩ := hend.eight
            simp only [sets, Nat.zero_add, Nat.reduceAdd] at m0 m1 m2 m3 m4 m5 m6 m7 hfin
            have HFIN := Lib.hid hfin
            clear hz hend hfin
            go_wp2
            exact bodyPost_ret (v := .tuple #[.agg #[.int .i64 0, .slice none 0 0, .int .i64 0, .bool false, .int .i64 0, .string ⟨#[]⟩, .slice none 0 0, .slice none 0 0], .int .i64 2]) (by simp [results, Try.results51, go_sem, m0, m1, m2, m3, m4, m5, m6, m7]) rfl ⟨by rw [HQE.out]; exact HFIN.out.1, .inl ⟨by rw [HQE.out], rfl⟩⟩
          | true =>
            rw [hrb] at hr hq
            have hqe : q = (some ⟨(k : Int), p, x⟩, s4) := hq
            have HQE := Lib.hid hqe
            have HR := Lib.hid hr
            clear hq hqe hr hrb hd HQ HER hbx
            go_wp2_with fail
            refine HR.out.mono ?_
            rintro e w6 ⟨rfl, hb6⟩
            have HC6 := Lib.hid (HC.out.below hb6)
            clear y0 y1 y2 y3 y4 y5 y6 y7 hyl hb6 HR HC
            have hbx6 := HC6.out.2.2.2.1
            obtain ⟨y0, y1, y2, y3, y4, y5, y6, y7⟩ := hbx6.eight
            have hyl := hbx6.lt
            clear hbx6
            have hz := HC6.out.2.1
            obtain ⟨z0, z1, z2, z3, z4, z5, z6, z7⟩ := hz.eight
            have hzl := hz.lt
            have hzf := Box.free hz
            have hend := box_sets08 hz (.int .i64 (k : Int)) (.slice va p.length vc) (.int .i64 x.kind) (.bool x.yes) (.int .i64 x.num) (.string x.text) (.slice la x.list.length lc) (.slice fa x.fields.length fc)
            have hfin := HC6.out.back [.int .i64 (k : Int), .slice va p.length vc, .int .i64 x.kind, .bool x.yes, .int .i64 x.num, .string x.text, .slice la x.list.length lc, .slice fa x.fields.length fc]
            obtain ⟨m0, m1, m2, m3, m4, m5, m6, m7⟩ := hend.eight
            simp only [sets, Nat.zero_add, Nat.reduceAdd] at m0 m1 m2 m3 m4 m5 m6 m7 hfin
            have HFIN := Lib.hid hfin
            clear hz hend hfin
            go_wp2
            exact bodyPost_ret (v := .tuple #[.agg #[.int .i64 (k : Int), .slice va p.length vc, .int .i64 x.kind, .bool x.yes, .int .i64 x.num, .string x.text, .slice la x.list.length lc, .slice fa x.fields.length fc], .int .i64 0]) (by simp [results, Try.results51, go_sem, m0, m1, m2, m3, m4, m5, m6, m7]) rfl ⟨by rw [HQE.out]; exact HFIN.out.1, .inr ⟨⟨(k : Int), p, x⟩, va, vc, la, lc, fa, fc, by rw [HQE.out], rfl, HFIN.out.2⟩⟩

end Go.Proofs.Ytljhcnlifdmacaa
end

section
namespace Go.Proofs.Ytljhcnlifdmacaa
open Go.RowKit

theorem readS_len {st : St} (h : stLen st) : stLen (readS st).2 := (textS_len (pathS_len (numS_len (numS_len h)) _)).1
theorem opsS_len {st : St} (h : stLen st) : ∀ (n : Nat) {os : List PO} {s : St}, opsS n st = some (os, s) → stLen s
  | 0, os, s, e => by
    simp only [opsS, Option.some.injEq, Prod.mk.injEq] at e
    rw [← e.2]
    exact h
  | n + 1, os, s, e => by
    rw [opsS] at e
    cases ho : opsS n st with
    | none => rw [ho] at e; cases e
    | some q =>
      obtain ⟨os', s'⟩ := q
      have ih := opsS_len h n ho
      rw [ho] at e
      simp only at e
      have hr := readS_len ih
      cases hq : readS s' with
      | mk a s2 =>
        rw [hq] at e hr
        cases a with
        | none => cases e
        | some o =>
          simp only [Option.some.injEq, Prod.mk.injEq] at e
          rw [← e.2]
          exact hr
theorem opsS_count {st : St} : ∀ (n : Nat) {os : List PO} {s : St}, opsS n st = some (os, s) → os.length = n
  | 0, os, s, e => by
    simp only [opsS, Option.some.injEq, Prod.mk.injEq] at e
    rw [← e.1]
    rfl
  | n + 1, os, s, e => by
    rw [opsS] at e
    cases ho : opsS n st with
    | none => rw [ho] at e; cases e
    | some q =>
      obtain ⟨os', s'⟩ := q
      have ih := opsS_count n ho
      rw [ho] at e
      simp only at e
      cases hq : readS s' with
      | mk a s2 =>
        rw [hq] at e
        cases a with
        | none => cases e
        | some o =>
          simp only [Option.some.injEq, Prod.mk.injEq] at e
          rw [← e.1, List.length_append, ih]
          rfl
theorem opsS_fail {st : St} {j : Nat} (h : opsS j st = none) : ∀ d, opsS (j + d) st = none
  | 0 => h
  | d + 1 => by
    show opsS (j + d + 1) st = none
    rw [opsS, opsS_fail h d]

def ocells (o : PO) (pa : Option Addr) (pc : Nat) (oa : Option Addr) (oc : Nat) (ob : Option Addr) (od : Nat) : List Value :=
  [.int .i64 o.kind, .slice pa o.path.length pc, .int .i64 o.val.kind, .bool o.val.yes, .int .i64 o.val.num, .string o.val.text, .slice oa o.val.list.length oc, .slice ob o.val.fields.length od]

/-- an operation whose path and value lie in blocks of S -/
def OIn (W : World) (S : Nat → Prop) (o : PO) (pa : Option Addr) (pc : Nat) (oa : Option Addr) (oc : Nat) (ob : Option Addr) (od : Nat) : Prop :=
  (o.path.length ≤ pc ∧ pc ≤ maxLen) ∧ (o.path = [] ∨ ∃ pb poff, pa = some ⟨pb, poff, none⟩ ∧ S pb ∧ StrAt W pb poff o.path) ∧ o.val.At W S (.slice oa o.val.list.length oc) (.slice ob o.val.fields.length od)

theorem OIn.move {W W' : World} {S S' : Nat → Prop} {o : PO} {pa : Option Addr} {pc : Nat} {oa : Option Addr} {oc : Nat} {ob : Option Addr} {od : Nat} (h : OIn W S o pa pc oa oc ob od) (hm : ∀ q, S q → q < W.heap.size → S' q ∧ W'.heap[q]? = W.heap[q]?) (hz : W.heap.size ≤ W'.heap.size) : OIn W' S' o pa pc oa oc ob od :=
  ⟨h.1, h.2.1.imp id fun ⟨pb, poff, e, hs, hst⟩ => ⟨pb, poff, e, (hm pb hs hst.1).1, hst.keepH (hm pb hs hst.1).2⟩, V.At.move hm hz _ (Nat.le_refl _) h.2.2⟩

/-- a row of operations that the call owns, in blocks from B on -/
def OW (B : Nat) (W : World) (v : Value) (os : List PO) : Prop :=
  ∃ cs, W.ownsRow B 50 8 v os.length cs ∧ ∀ j (h : j < os.length), ∃ pa pc oa oc ob od, (∀ i u, (ocells (os[j]) pa pc oa oc ob od)[i]? = some u → cs[j * 8 + i]? = some u) ∧ OIn W (fun q => B ≤ q ∧ v.ownBlock ≠ some q) (os[j]) pa pc oa oc ob od

theorem OW.nil (B : Nat) (W : World) : OW B W (.slice none 0 0) [] := ⟨[], World.ownsRow_nil W B 50 8, fun j h => by simp at h⟩

theorem OW.grown {B : Nat} {W W' : World} {v : Value} {os : List PO} {r : Option Nat} (h : OW B W v os) (hg : W.grownBy W' r) (hr : ∀ q, r = some q → q < B) : OW B W' v os := by
  obtain ⟨cs, ho, hc⟩ := h
  refine ⟨cs, World.ownsRow.kept ho hg ?_, fun j hj => ?_⟩
  · by_cases hv : v.ownBlock = none
    · exact .inl hv
    · refine .inr fun e => ?_
      cases hq : v.ownBlock with
      | none => exact hv hq
      | some q =>
        have h1 := (World.ownsRow.lt ho q hq).1
        have h2 := hr q (by rw [← e, hq])
        omega
  · obtain ⟨pa, pc, oa, oc, ob, od, h1, h2⟩ := hc j hj
    exact ⟨pa, pc, oa, oc, ob, od, h1, h2.move (fun q hq hlt => ⟨hq, hg.block q hlt (fun e => by have := hr q e.symm; omega)⟩) hg.size⟩

theorem OW.lt {B : Nat} {W : World} {v : Value} {os : List PO} (h : OW B W v os) : ∀ q, v.ownBlock = some q → B ≤ q ∧ q < W.heap.size := by
  obtain ⟨cs, ho, _⟩ := h
  exact World.ownsRow.lt ho

theorem OW.form {B : Nat} {W : World} {v : Value} {os : List PO} (h : OW B W v os) : ∃ a c, v = .slice a os.length c := by
  obtain ⟨cs, ho, _⟩ := h
  rcases ho.2 with ⟨rfl, h0⟩ | ⟨g, cap, cur, rfl, _⟩
  · exact ⟨none, 0, by rw [h0]⟩
  · exact ⟨_, _, rfl⟩

theorem OW.ops {B : Nat} {W : World} {a : Option Addr} {n c : Nat} {os : List PO} (h : OW B W (.slice a n c) os) : OpsAt W All a os := by
  obtain ⟨cs, ho, hc⟩ := h
  rcases ho.2 with ⟨hv, h0⟩ | ⟨g, cap, cur, hv, _⟩
  · exact .inl (List.eq_nil_of_length_eq_zero h0)
  · have hcells := World.ownsRow.cells ho (g := g) (by rw [hv]; rfl)
    have hlt := (World.ownsRow.lt ho g (by rw [hv]; rfl)).2
    injection hv with h1 h2 h3
    refine .inr ⟨g, 0, h1, hlt, fun j hj => ?_⟩
    obtain ⟨pa, pc, oa, oc, ob, od, hq, hin⟩ := hc j hj
    refine ⟨pa, pc, oa, oc, ob, od, fun i u hi => ?_, hin.1, hin.2.1.imp id fun ⟨pb, poff, e, _, hst⟩ => ⟨pb, poff, e, hst⟩, hin.2.2.is⟩
    have h5 := hcells (j * 8 + i) u (hq i u hi)
    have e2 : (⟨g, 0, none⟩ : Addr).add (j * 8 + i) = ⟨g, 0 + j * 8 + i, none⟩ := by unfold Addr.add; by_cases h2 : j * 8 + i = 0 <;> simp [h2] <;> omega
    rw [e2] at h5
    exact h5

theorem infoO : (Try.prog.info? 50).map (fun i => (i.zero, i.size, i.bytes)) = some (some (.agg #[.int .i64 0, .slice none 0 0, .int .i64 0, .bool false, .int .i64 0, .string ⟨#[]⟩, .slice none 0 0, .slice none 0 0]), 8, 120) := by kernel_rfl

/-- one operation more -/
theorem OW.app {B B0 : Nat} {W : World} {v : Value} {os : List PO} (h : OW B W v os) (hB : B ≤ W.heap.size) (hn : os.length ≤ 1000) {o : PO} {pa : Option Addr} {pc : Nat} {oa : Option Addr} {oc : Nat} {ob : Option Addr} {od : Nat} (hin : OIn W (fun q => B0 ≤ q) o pa pc oa oc ob od) (hB0 : B ≤ B0) (hv0 : ∀ q, v.ownBlock = some q → q < B0) :
    ∃ v' w', (Builtin.append_ #[39, 39] 39 #[v, .slice (some ⟨W.heap.size, 0, none⟩) 1 1]).run Try.prog (W.alloc (.cells #[.int .i64 o.kind, .slice pa o.path.length pc, .int .i64 o.val.kind, .bool o.val.yes, .int .i64 o.val.num, .string o.val.text, .slice oa o.val.list.length oc, .slice ob o.val.fields.length od] 50)) = .ok v' w' ∧ OW B w' v' (os ++ [o]) ∧ Up W v w' v' := by
  obtain ⟨i, hi, hz, hi1, hi2⟩ := info_parts infoO
  obtain ⟨cs, ho, hc⟩ := h
  have hb := Box.new W 50 #[.int .i64 o.kind, .slice pa o.path.length pc, .int .i64 o.val.kind, .bool o.val.yes, .int .i64 o.val.num, .string o.val.text, .slice oa o.val.list.length oc, .slice ob o.val.fields.length od]
  obtain ⟨v', w', hr, ho', hu⟩ := run_app (P := Try.prog) (W.alloc (.cells #[.int .i64 o.kind, .slice pa o.path.length pc, .int .i64 o.val.kind, .bool o.val.yes, .int .i64 o.val.num, .string o.val.text, .slice oa o.val.list.length oc, .slice ob o.val.fields.length od] 50)) B 39 39 50 i _ 8 120 Try.underlying39 hi hz hi1 hi2 rfl (by decide) v os.length cs (World.ownsRow.alloc ho _)
    ⟨W.heap.size, 0, none⟩ 1 1 (ocells o pa pc oa oc ob od) rfl (fun j u hj => by
      have e : ((⟨W.heap.size, 0, none⟩ : Addr).add j) = ⟨W.heap.size, j, none⟩ := by unfold Addr.add; by_cases h0 : j = 0 <;> simp [h0]
      rw [e, hb.cell]
      simpa [ocells] using hj) (by intro u hu; simp [ocells] at hu; rcases hu with rfl | rfl | rfl | rfl | rfl | rfl | rfl | rfl <;> rfl) (by unfold maxLen; omega) (by omega) (by simp; omega)
  have hu2 : Up W v w' v' := hu.alloc
  have hlen : cs.length = os.length * 8 := ho.1
  have hne : ∀ q, q < W.heap.size → v.ownBlock ≠ some q → v'.ownBlock ≠ some q := fun q hq hv e => by
    rcases hu2.2 with e2 | e2
    · rw [e2] at e; exact hv e
    · have := e2 q e; omega
  refine ⟨v', w', hr, ⟨cs ++ ocells o pa pc oa oc ob od, by rw [List.length_append]; exact ho', fun j hj => ?_⟩, hu2⟩
  by_cases hjl : j < os.length
  · obtain ⟨pa', pc', oa', oc', ob', od', h1, h2⟩ := hc j hjl
    refine ⟨pa', pc', oa', oc', ob', od', fun q u hq => ?_, ?_⟩
    · rw [List.getElem_append_left hjl] at hq
      have h3 := h1 q u hq
      rw [List.getElem?_append_left (List.getElem?_eq_some_iff.1 h3).1]
      exact h3
    · rw [List.getElem_append_left hjl]
      exact h2.move (fun q hq hlt => ⟨⟨hq.1, hne q hlt hq.2⟩, hu2.1.block q hlt (fun e => hq.2 e.symm)⟩) hu2.1.size
  · obtain rfl : j = os.length := by simp at hj; omega
    refine ⟨pa, pc, oa, oc, ob, od, fun q u hq => ?_, ?_⟩
    · rw [List.getElem_append_right (Nat.le_refl _)] at hq
      simp only [Nat.sub_self, List.getElem_cons_zero] at hq
      rw [List.getElem?_append_right (by rw [hlen]; omega), hlen, show os.length * 8 + q - os.length * 8 = q by omega]
      exact hq
    · rw [List.getElem_append_right (Nat.le_refl _)]
      simp only [Nat.sub_self, List.getElem_cons_zero]
      have hv1 : ∀ q, B0 ≤ q → v.ownBlock ≠ some q := fun q hq e => by have := hv0 q e; omega
      exact hin.move (fun q hq hlt => ⟨⟨by omega, hne q hlt (hv1 q hq)⟩, hu2.1.block q hlt (fun e => hv1 q hq e.symm)⟩) hu2.1.size

def errS (st : St) : Int := if st.isNone then 2 else 0

theorem err_s (b : Nat) (st : St) (w : World) (h : RS w b st) : Calls Try.prog 52 #[.pointer (some ⟨b, 0, none⟩)] w fun e w' => e = .returned (.int .i64 (errS st)) ∧ w = w' := by
  cases st with
  | none => exact err_bad b _ w h
  | some l => exact err_good b _ w h

/-- what Decode answers, and where the reader is then -/
def DecOP (st : St) (b : Nat) (w : World) (e : Ending) (w' : World) : Prop :=
  ∃ (os : List PO) (a : Option Addr) (c : Nat) (er : Int) (s : St), e = .returned (.tuple #[.slice a os.length c, .int .i64 er]) ∧ decS st = (os, er) ∧ GS w b s w' ∧ OpsAt w' All a os ∧ (er = 0 → opsS (numS st 50).1 (numS st 50).2 = some (os, s))

set_option maxHeartbeats 8000000 in
set_option maxRecDepth 100000 in
theorem decode_ops (b : Nat) (st : St) (hl : stLen st) (w : World) (h : RS w b st) :
    Calls Try.prog 29 #[.pointer (some ⟨b, 0, none⟩)] w (DecOP st b w) := by
  have hn := num_s b st 50 50 rfl (by omega) w h
  have hl1 := numS_len (M := 50) hl
  have hle := numS_le st 50
  have hd : decS st = decS st := rfl
  obtain ⟨q, hq⟩ : ∃ q, q = decS st := ⟨_, rfl⟩
  unfold DecOP
  rw [← hq]
  unfold decS at hq
  obtain ⟨n, hn1⟩ : ∃ n, n = (numS st 50).1 := ⟨_, rfl⟩
  obtain ⟨s1, hs1⟩ : ∃ s, s = (numS st 50).2 := ⟨_, rfl⟩
  rw [← hn1, ← hs1]
  simp only [← hn1, ← hs1] at hn hl1 hle hq
  have HN := Lib.hid hn
  have HQ := Lib.hid (And.intro hq (And.intro hl1 h.lt))
  clear hn hl1 hq hd hn1 hs1 h hl
  go_enter Try.func29, Try.ntmps29
  go_wp2_with fail
  refine HN.out.mono ?_
  rintro e w1 ⟨rfl, hg1⟩
  have H1 : Hid (∃ os s, opsS 0 s1 = some (os, s) ∧ GS w b s w1 ∧ OW w.heap.size w1 (.slice none 0 0) os) := Lib.hid ⟨[], s1, rfl, hg1, OW.nil _ _⟩
  clear hg1 HN
  go_wp2_with fail
  go_loopw [4, 9] (fun v i wr => ∃ j : Nat, j ≤ n ∧ i = .int .i64 j ∧ Hid (∃ os s, opsS j s1 = some (os, s) ∧ GS w b s wr ∧ OW w.heap.size wr v os)) (fun _ i _ => n - (intOf i).toNat)
  case atStart => exact ⟨0, Nat.zero_le _, rfl, H1⟩
  case round =>
    clear H1
    obtain ⟨j, hj, rfl, HR⟩ := hrel
    obtain ⟨os, s, hos, hgs, how⟩ := HR.out
    by_cases hlt : j < n
    · have hlt' : (j : Int) < (n : Int) := by omega
      have hrd := read_op b s (opsS_len HQ.out.2.1 j hos) wr hgs.1
      have HRD := Lib.hid hrd
      have HX := Lib.hid (And.intro hos (And.intro hgs how))
      have HLT := Lib.hid hlt
      clear hrd hos hgs how hlt HR
      go_wp2_with fail
      refine HRD.out.mono ?_
      rintro e w5 ⟨hg5, ⟨hq5, rfl⟩ | ⟨o, pa, pc, oa, oc, ob, od, hq5, rfl, hnew⟩⟩
      · obtain ⟨hos, hgs, how⟩ := HX.out
        have hfail : opsS (j + 1) s1 = none := by
          rw [opsS, hos]
          simp only
          cases hr : readS s with
          | mk x y => rw [hr] at hq5; simp only at hq5; rw [hq5]
        have hall : opsS n s1 = none := by
          have := opsS_fail hfail (n - (j + 1))
          have := HLT.out
          rw [show j + 1 + (n - (j + 1)) = n by omega] at *
          assumption
        have hq : q = ([], 2) := by rw [HQ.out.1, hall]
        have hF := Lib.hid (And.intro hq ((hgs.trans hg5).below ((Below.refl _ w5).alloc (Nat.le_refl _) (.cells #[.int .i64 0, .slice none 0 0, .int .i64 0, .bool false, .int .i64 0, .string ⟨#[]⟩, .slice none 0 0, .slice none 0 0] 50))))
        clear hos hgs how hfail hall hq hq5 hg5 HX HRD
        go_wp2
        go_ret2
        exact ⟨[], none, 0, 2, _, rfl, hF.out.1, hF.out.2, .inl rfl, fun h => by omega⟩
      · obtain ⟨hos, hgs, how⟩ := HX.out
        have hnext : opsS (j + 1) s1 = some (os ++ [o], (readS s).2) := by
          rw [opsS, hos]
          simp only
          cases hr : readS s with
          | mk x y => rw [hr] at hq5; simp only at hq5; rw [hq5]
        have hcnt := opsS_count j hos
        have hA : Below w5.heap.size w5 (w5.alloc (.cells #[.int .i64 o.kind, .slice pa o.path.length pc, .int .i64 o.val.kind, .bool o.val.yes, .int .i64 o.val.num, .string o.val.text, .slice oa o.val.list.length oc, .slice ob o.val.fields.length od] 50)) := (Below.refl _ w5).alloc (Nat.le_refl _) _
        have hg6 := hg5.below hA
        have how6 := how.grown hg6.2 (fun q e => by have := Option.some.inj e; have := HQ.out.2.2; omega)
        have hin6 : OIn (w5.alloc (.cells #[.int .i64 o.kind, .slice pa o.path.length pc, .int .i64 o.val.kind, .bool o.val.yes, .int .i64 o.val.num, .string o.val.text, .slice oa o.val.list.length oc, .slice ob o.val.fields.length od] 50)) (fun q => wr.heap.size ≤ q) o pa pc oa oc ob od := OIn.move (W := w5) (S := fun q => wr.heap.size ≤ q) hnew (fun q hq hlt => ⟨hq, hA.block q hlt⟩) hA.size
        have hz1 := hgs.2.size
        have hz2 := hg6.2.size
        obtain ⟨v', w7, hr, how7, hu7⟩ := how6.app (by omega) (by omega) hin6 hz1 (fun q e => (how.lt q e).2)
        simp only [World.size_alloc] at hr
        have hgw := hgs.trans hg6
        have HE : Hid (∃ os s, opsS (j + 1) s1 = some (os, s) ∧ GS w b s w7 ∧ OW w.heap.size w7 v' os) :=
          Lib.hid ⟨_, _, hnext, ⟨hgw.1.keep (hu7.1.block b hgw.1.lt (fun e => by have h1 := (how.lt b e.symm).1; have := HQ.out.2.2; omega)), grown_trans hgw.2 hu7.1 (.inr fun q e => (how.lt q e).1)⟩, how7⟩
        clear hos hgs how hnext hcnt hA hg6 how6 hin6 hz1 hz2 how7 hu7 hgw hg5 hq5 hnew HX HRD
        unfold opAgg
        go_wp2_with (at_builtin; refine Lib.wpList_append_run _ rfl _ _ _ _ rfl _ _ rfl rfl _ _ hr ?_)
        go_roundw
        case rel => exact ⟨j + 1, HLT.out, by have := HLT.out; go_num, HE⟩
        case measure => have := HLT.out; simp [intOf]; omega
    · obtain rfl : j = n := by omega
      have hge : ¬ (j : Int) < (j : Int) := by omega
      obtain ⟨a, c, hv⟩ := how.form
      subst hv
      have hq : q = (os, errS s) := by
        rw [HQ.out.1, hos]
        cases s <;> rfl
      have hE := err_s b s wr hgs.1
      have HE := Lib.hid hE
      have HF := Lib.hid (And.intro hq (And.intro hgs (And.intro how.ops hos)))
      clear hE hq hgs how hos hlt HR
      go_wp2_with fail
      refine HE.out.mono ?_
      rintro e w9 ⟨rfl, rfl⟩
      go_wp2
      go_ret2
      exact ⟨os, a, c, errS s, s, rfl, HF.out.1, HF.out.2.1, HF.out.2.2.1, fun _ => HF.out.2.2.2⟩

end Go.Proofs.Ytljhcnlifdmacaa
end
