/-
  chain: At, Put.
-/
import Derived.Test.YtgjgiokdplglbaaChS
import Derived.Test.YtgjgiokdplglbaaOwn
import Derived.ArgAppend
namespace Go.Proofs.Ytgjgiokdplglbaa
open Go.RowKit

/-- what belonged behind the first r versions -/
def atR (vs : List Ver) (r : Nat) : ByteArray × Bool := match (vs.take r).getLast? with | none => (⟨#[]⟩, false) | some v => if v.gone then (⟨#[]⟩, false) else (v.val, true)

theorem atR_zero (vs : List Ver) : atR vs 0 = (⟨#[]⟩, false) := rfl
theorem atR_at (vs : List Ver) (r : Nat) (h : r < vs.length) : atR vs (r + 1) = if (vs[r]).gone then (⟨#[]⟩, false) else ((vs[r]).val, true) := by
  unfold atR
  rw [List.take_succ_eq_append_getElem h, List.getLast?_concat]

def SomeAt (vs : List Ver) (seq : Int) (e : Ending) : Prop := ∃ r : Nat, UpTo vs seq r ∧ e = .returned (.tuple #[.string (atR vs r).1, .bool (atR vs r).2])

theorem at_any (a : Option Addr) (c : Nat) (vs : List Ver) (seq : Int) (w : World) (h : ChIs w a vs) (hl : vs.length ≤ 4611686018427387900) (hr : Rise vs) :
    Calls Try.prog 30 #[.slice a vs.length c, .int .i64 seq] w fun e w' => SomeAt vs seq e ∧ Below w.heap.size w w' := by
  have HU := Lib.hid (upto_any a c vs seq w h hl hr)
  have HH := Lib.hid h
  clear h hr
  go_enter Try.func30, Try.ntmps30
  go_wp2_with fail
  refine HU.out.mono ?_
  rintro e w1 ⟨⟨r, hr, rfl⟩, hb1⟩
  have hrl := hr.1
  have HR := Lib.hid hr
  clear hr
  cases r with
  | zero =>
    go_wp2
    refine bodyPost_ret (v := .tuple #[.string ⟨#[]⟩, .bool false]) (by simp [results, Try.results30, go_sem]) rfl ⟨⟨0, HR.out, by rw [atR_zero]⟩, hb1⟩
  | succ r =>
    obtain ⟨_, h2⟩ := HH.out.below hb1
    rcases h2 with h0 | ⟨b, off, rfl, hlt, hv⟩
    · rw [h0] at hrl; exact absurd hrl (by simp)
    · obtain ⟨c0, c1, c2⟩ := hv r (by omega)
      have HA := Lib.hid (atR_at vs r (by omega))
      obtain ⟨s, hs⟩ : ∃ s, s = vs[r] := ⟨_, rfl⟩
      rw [← hs] at c0 c1 c2 HA
      obtain ⟨sq, tx, gn⟩ := s
      simp only at c0 c1 c2
      clear hs hv
      have hz : ((r : Int) + 1 == 0) = false := by rw [beq_eq_false_iff_ne]; omega
      have hi : (r : Int) < (vs.length : Int) := by omega
      cases gn
      · go_wp2
        exact bodyPost_ret (v := .tuple #[.string tx, .bool true]) (by simp [results, Try.results30, go_sem]) rfl ⟨⟨r + 1, HR.out, by rw [HA.out]; rfl⟩, hb1⟩
      · go_wp2
        exact bodyPost_ret (v := .tuple #[.string ⟨#[]⟩, .bool false]) (by simp [results, Try.results30, go_sem]) rfl ⟨⟨r + 1, HR.out, by rw [HA.out]; rfl⟩, hb1⟩

/-- a chain of the call's own, in a new block -/
def ChNew (w w' : World) (vv : Value) (vs : List Ver) : Prop :=
  ∃ g c, vv = .slice (some ⟨g, 0, none⟩) vs.length c ∧ vs.length ≤ c ∧ c ≤ 9223372036854775807 ∧ w.heap.size ≤ g ∧ g < w'.heap.size ∧ VersAt w' g 0 vs ∧ Below w.heap.size w w'

theorem infoVer : (Try.prog.info? 64).map (fun i => (i.zero, i.size, i.bytes)) = some (some (.agg #[.int .i64 0, .string ⟨#[]⟩, .bool false]), 3, 32) := by kernel_rfl

def vcells (v : Ver) : List Value := [.int .i64 v.seq, .string v.val, .bool v.gone]
def vrow : List Ver → List Value
  | [] => []
  | v :: r => vcells v ++ vrow r

theorem vrow_len : ∀ vs : List Ver, (vrow vs).length = vs.length * 3
  | [] => rfl
  | v :: r => by rw [vrow, List.length_append, vrow_len r, List.length_cons]; simp [vcells]; omega

theorem vrow_app : ∀ (a b : List Ver), vrow (a ++ b) = vrow a ++ vrow b
  | [], _ => rfl
  | v :: r, b => by rw [List.cons_append, vrow, vrow_app r b, vrow, List.append_assoc]

theorem vrow_get : ∀ (vs : List Ver) (i : Nat) (h : i < vs.length) (j : Nat), j < 3 → (vrow vs)[i * 3 + j]? = (vcells (vs[i]))[j]?
  | v :: r, 0, _, j, hj => by
    rw [vrow, List.getElem?_append_left (by simp [vcells]; omega)]
    simp
  | v :: r, i + 1, h, j, hj => by
    rw [vrow, List.getElem?_append_right (by simp [vcells]; omega)]
    have e : (i + 1) * 3 + j - (vcells v).length = i * 3 + j := by simp [vcells]; omega
    rw [e, vrow_get r i (by simpa using h) j hj]
    simp

/-- ONE VERSION appended to a chain that has no room left -/
theorem run_app_ver (W : World) (ty : TypeId) (a : Option Addr) (vs : List Ver) (h : ChIs W a vs) (hl : vs.length ≤ 1000000) (v : Ver) (p : Nat) (m : Nat) (hp : W.heap[p]? = some (.cells (vcells v).toArray 64)) :
    ∃ v' w', (Builtin.append_ #[62, 62] ty #[.slice a vs.length vs.length, .slice (some ⟨p, 0, none⟩) 1 m]).run Try.prog W = .ok v' w' ∧ ChNew W w' v' (vs ++ [v]) := by
  obtain ⟨i, hi, hz, hi1, hi2⟩ := info_parts infoVer
  have hn : ∀ j u, (vcells v)[j]? = some u → W.cell? ((⟨p, 0, none⟩ : Addr).add j) = some u := by
    intro j u hj
    have e : ((⟨p, 0, none⟩ : Addr).add j) = ⟨p, j, none⟩ := by unfold Addr.add; by_cases h0 : j = 0 <;> simp [h0]
    rw [e, cell_of_row W p j (vcells v).toArray 64 (0, 0) hp]
    simpa using hj
  have fin : ∀ v' w', w'.ownsRow W.heap.size 64 3 v' (vs.length + 1) (vrow vs ++ vcells v) → W.grownBy w' none → ChNew W w' v' (vs ++ [v]) := fun v' w' ho hg => by
    rcases ho.2 with ⟨_, h0⟩ | ⟨g, cap, cur, e1, e2, e3, e4, e5, _⟩
    · omega
    · refine ⟨g, cap, by rw [e1, List.length_append]; rfl, by rw [List.length_append]; exact e4, by unfold maxLen at e5; exact e5, e2, (World.ownsRow.lt ho g (by rw [e1]; rfl)).2, fun j hj => ?_, ⟨hg.os, hg.tape, hg.output, hg.size, fun k hk => hg.block k hk (by simp)⟩⟩
      have hc := World.ownsRow.cells ho (g := g) (by rw [e1]; rfl)
      have e : vrow vs ++ vcells v = vrow (vs ++ [v]) := by rw [vrow_app]; simp [vrow]
      have hh : ∀ t, t < 3 → ∀ u, (vcells ((vs ++ [v])[j]))[t]? = some u → w'.cell? ⟨g, 0 + j * 3 + t, none⟩ = some u := fun t ht u hu => by
        have h1 := hc (j * 3 + t) u (by rw [e, vrow_get _ j hj t ht]; exact hu)
        have e2 : (⟨g, 0, none⟩ : Addr).add (j * 3 + t) = ⟨g, 0 + j * 3 + t, none⟩ := by unfold Addr.add; by_cases h0 : j * 3 + t = 0 <;> simp [h0]; omega
        rw [e2] at h1
        exact h1
      exact ⟨hh 0 (by omega) _ rfl, hh 1 (by omega) _ rfl, hh 2 (by omega) _ rfl⟩
  have grow : ∀ (x : Addr), (∀ j u, (vrow vs)[j]? = some u → W.cell? (x.add j) = some u) → ∃ v' w', (Builtin.append_ #[62, 62] ty #[.slice (some x) vs.length vs.length, .slice (some ⟨p, 0, none⟩) 1 m]).run Try.prog W = .ok v' w' ∧ ChNew W w' v' (vs ++ [v]) := fun x hx => by
    obtain ⟨v', w', hr, ho, hg⟩ := run_append_arg_grows (P := Try.prog) W 62 ty 64 i _ 3 32 Try.underlying62 hi hz hi1 hi2 rfl (by decide) x vs.length vs.length (vrow vs) (vrow_len vs) hx
      ⟨p, 0, none⟩ 1 m (vcells v) rfl hn (by omega) (by unfold maxLen; omega) (by omega)
    exact ⟨v', w', hr, fin v' w' ho hg⟩
  rcases h.2 with rfl | ⟨b, off, rfl, hlt, hv⟩
  · cases a with
    | some x => exact grow x fun j u hj => by simp [vrow] at hj
    | none =>
      obtain ⟨v', w', hr, ho, hg, _⟩ := run_append_own (P := Try.prog) W W.heap.size 62 ty 64 i _ 3 32 Try.underlying62 hi hz hi1 hi2 rfl (by decide) (.slice none 0 0) 0 [] ⟨rfl, .inl ⟨rfl, rfl⟩⟩
        ⟨p, 0, none⟩ 1 m (vcells v) rfl hn (by intro u hu; simp [vcells] at hu; rcases hu with rfl | rfl | rfl <;> rfl) (by unfold maxLen; omega) (by omega) (Nat.le_refl _)
      exact ⟨v', w', hr, fin v' w' ho hg⟩
  · refine grow ⟨b, off, none⟩ fun j u hj => ?_
    have hjl : j < vs.length * 3 := by rw [← vrow_len vs]; exact (List.getElem?_eq_some_iff.1 hj).1
    have hj3 : j = j / 3 * 3 + j % 3 := by omega
    have hd : j / 3 < vs.length := by omega
    rw [hj3, vrow_get vs (j / 3) hd (j % 3) (by omega)] at hj
    have e : (⟨b, off, none⟩ : Addr).add j = ⟨b, off + j / 3 * 3 + j % 3, none⟩ := by unfold Addr.add; by_cases h0 : j = 0 <;> simp [h0]; omega
    rw [e]
    obtain ⟨c0, c1, c2⟩ := hv (j / 3) hd
    rcases (show j % 3 = 0 ∨ j % 3 = 1 ∨ j % 3 = 2 by omega) with e | e | e <;> rw [e] at hj ⊢ <;> simp [vcells] at hj <;> subst hj
    · exact c0
    · exact c1
    · exact c2

end Go.Proofs.Ytgjgiokdplglbaa
