/-
  Plain facts for mailbaglaw08.PatchPaths: maps in each other, and a path through them.
-/
import Derived.Test.YtljhcnlifdmacaaPBB
namespace Go.Proofs.Ytljhcnlifdmacaa.patchPaths

def na : ByteArray := ⟨#[97]⟩
def nb : ByteArray := ⟨#[98]⟩

/-- maps in each other -/
def nest : Nat → V
  | 0 => V.ofMap []
  | d + 1 => V.ofMap [(na, nest d)]

/-- what Set makes of them -/
def nestB : Nat → Nat → V
  | 0, 0 => V.ofMap [(nb, intV 1)]
  | 0, d + 1 => V.ofMap [(na, nest d), (nb, intV 1)]
  | n + 1, d => V.ofMap [(na, nestB n (d - 1))]

def thePath (n : Nat) : List ByteArray := List.replicate n na ++ [nb]

theorem path_len (n : Nat) : (thePath n).length = n + 1 := by simp [thePath]

theorem path_succ (n : Nat) : thePath (n + 1) = na :: thePath n := by simp [thePath, List.replicate_succ]

theorem na_nb : na.data.toList < nb.data.toList := by decide
theorem na_ne : na ≠ nb := by
  intro h
  have := congrArg ByteArray.data h
  revert this
  decide
theorem nb_ne : nb ≠ na := fun h => na_ne h.symm

theorem nest_kind (d : Nat) : (nest d).kind = 5 := by cases d <;> rfl

theorem get_a (x : V) : getF [(na, x)] na = some x := by simp [getF]

theorem at_a (x : V) : atF [(na, x)] na = 0 := by
  unfold atF
  rw [List.countP_eq_zero]
  intro p hp
  rw [show p = (na, x) by simpa using hp]
  simp

theorem at_b (x : V) : atF [(na, x)] nb = 1 := by
  unfold atF
  rw [List.countP_cons_of_pos (by simpa using na_nb)]
  rfl

theorem put_a (x y : V) : putV [(na, x)] na (some y) = [(na, y)] := by
  have h2 : isF [(na, x)] na = true := by unfold isF; rw [get_a]; rfl
  unfold putV
  rw [at_a, h2]
  rfl

theorem no_b (x : V) : getF [(na, x)] nb = none := by simp [getF, na_ne]

theorem put_b (x : V) (y : V) : putV [(na, x)] nb (some y) = [(na, x), (nb, y)] := by
  have h2 : isF [(na, x)] nb = false := by unfold isF; rw [no_b]; rfl
  unfold putV
  rw [at_b, h2]
  rfl

theorem along_nest : ∀ (n d : Nat), n ≤ d → alongV ⟨1, thePath n, intV 1⟩ (thePath n) (nest d) = .ok (nestB n d) ∧ ∀ p, alongV ⟨1, p, intV 1⟩ (thePath n) (nest d) = .ok (nestB n d)
  | 0, 0, _ => ⟨rfl, fun p => rfl⟩
  | 0, d + 1, _ => by
    have h : ∀ p, alongV ⟨1, p, intV 1⟩ (thePath 0) (nest (d + 1)) = .ok (nestB 0 (d + 1)) := fun p => by
      rw [show thePath 0 = [nb] from rfl, alongV, if_neg (by rw [nest_kind]; simp)]
      unfold lastV
      rw [if_pos rfl]
      show Except.ok ((nest (d + 1)).setF (putV [(na, nest d)] nb (some (intV 1)))) = _
      rw [put_b]
      rfl
    exact ⟨h _, h⟩
  | n + 1, 0, h => by omega
  | n + 1, d + 1, h => by
    have h1 : ∀ p, alongV ⟨1, p, intV 1⟩ (thePath (n + 1)) (nest (d + 1)) = .ok (nestB (n + 1) (d + 1)) := fun p => by
      have ih := (along_nest n d (by omega)).2 p
      obtain ⟨m, r, hp⟩ : ∃ m r, thePath n = m :: r := by
        cases hq : thePath n with
        | nil => have := path_len n; rw [hq] at this; simp at this
        | cons m r => exact ⟨m, r, rfl⟩
      rw [path_succ, hp, alongV, if_neg (by rw [nest_kind]; simp), ← hp]
      have hv : valF (nest (d + 1)).fields na = nest d := by
        show ((getF [(na, nest d)] na).getD V.null) = nest d
        rw [get_a]; rfl
      rw [hv, ih]
      show Except.ok ((nest (d + 1)).setF (putV [(na, nest d)] na (some (nestB n d)))) = _
      rw [put_a]
      rfl
    exact ⟨h1 _, h1⟩

theorem along_none : ∀ (n d : Nat), d < n → ∀ p, alongV ⟨1, p, intV 1⟩ (thePath n) (nest d) = .error 5
  | 0, _, h, _ => by omega
  | n + 1, d, h, p => by
    obtain ⟨m, r, hp⟩ : ∃ m r, thePath n = m :: r := by
      cases hq : thePath n with
      | nil => have := path_len n; rw [hq] at this; simp at this
      | cons m r => exact ⟨m, r, rfl⟩
    rw [path_succ, hp, alongV, if_neg (by rw [nest_kind]; simp), ← hp]
    match d, h with
    | 0, _ =>
      have hv : valF (nest 0).fields na = V.null := rfl
      rw [hv, hp]
      have : alongV ⟨1, p, intV 1⟩ (m :: r) V.null = .error 5 := by
        cases r with
        | nil => rw [alongV, if_pos (by decide)]
        | cons _ _ => rw [alongV, if_pos (by decide)]
      rw [this]
      rfl
    | d + 1, h =>
      have hv : valF (nest (d + 1)).fields na = nest d := by
        show ((getF [(na, nest d)] na).getD V.null) = nest d
        rw [get_a]; rfl
      rw [hv, along_none n d (by omega) p]
      rfl

theorem map_right {f : List Fd} {r : Int} (h1 : 1 ≤ r) (hr : RiseP f) (h : ∀ p ∈ f, p.2.right (r - 1) = true) : (V.ofMap f).right r = true := by
  rw [V.ofMap, V.right, decide_eq_true h1, rightF_mk hr h]
  rfl

theorem rise_one (p : Fd) : RiseP [p] := List.pairwise_singleton _ _
theorem rise_two (x y : V) : RiseP [(na, x), (nb, y)] := List.pairwise_cons.2 ⟨fun p hp => by rw [show p = (nb, y) by simpa using hp]; exact na_nb, rise_one _⟩

theorem nest_right : ∀ (d : Nat) (r : Int), (d : Int) + 1 ≤ r → (nest d).right r = true
  | 0, r, h => map_right (by omega) List.Pairwise.nil (fun p hp => by cases hp)
  | d + 1, r, h => map_right (by omega) (rise_one _) (fun p hp => by rw [show p = (na, nest d) by simpa using hp]; exact nest_right d _ (by omega))

theorem int_right (m : Int) (r : Int) (h : 1 ≤ r) : (intV m).right r = true := by
  rw [intV, V.right, decide_eq_true h]
  rfl

theorem nestB_right : ∀ (n d : Nat) (r : Int), n ≤ d → (d : Int) + 2 ≤ r → (nestB n d).right r = true
  | 0, 0, r, _, h => map_right (by omega) (rise_one _) (fun p hp => by rw [show p = (nb, intV 1) by simpa using hp]; exact int_right 1 _ (by omega))
  | 0, d + 1, r, _, h => map_right (by omega) (rise_two _ _) (fun p hp => by
    rcases List.mem_cons.1 hp with rfl | hp
    · exact nest_right d _ (by omega)
    · rw [show p = (nb, intV 1) by simpa using hp]; exact int_right 1 _ (by omega))
  | n + 1, 0, r, h, _ => by omega
  | n + 1, d + 1, r, hn, h => map_right (by omega) (rise_one _) (fun p hp => by rw [show p = (na, nestB n d) by simpa using hp]; exact nestB_right n d _ (by omega) (by omega))

theorem map_okv {f : List Fd} {k : Nat} (hl : f.length ≤ k) (hr : RiseP f) (h : ∀ p ∈ f, p.2.okv k) : (V.ofMap f).okv k :=
  okv_iff.2 ⟨⟨Nat.zero_le _, hl, hr, by show Is64 0; unfold Is64; omega⟩, (fun y hy => by cases hy), h⟩

theorem nest_okv : ∀ (d : Nat), (nest d).okv 1
  | 0 => map_okv (Nat.zero_le _) List.Pairwise.nil (fun p hp => by cases hp)
  | d + 1 => map_okv (Nat.le_refl _) (rise_one _) (fun p hp => by rw [show p = (na, nest d) by simpa using hp]; exact nest_okv d)

theorem one_okv (k : Nat) : (intV 1).okv k := intV_okv (by unfold Is64; omega) k

theorem nestB_okv : ∀ (n d : Nat), (nestB n d).okv 2
  | 0, 0 => map_okv (by decide) (rise_one _) (fun p hp => by rw [show p = (nb, intV 1) by simpa using hp]; exact one_okv 2)
  | 0, d + 1 => map_okv (Nat.le_refl _) (rise_two _ _) (fun p hp => by
    rcases List.mem_cons.1 hp with rfl | hp
    · exact (nest_okv d).mono (by decide)
    · rw [show p = (nb, intV 1) by simpa using hp]; exact one_okv 2)
  | n + 1, d => map_okv (by simp) (rise_one _) (fun p hp => by rw [show p = (na, nestB n (d - 1)) by simpa using hp]; exact nestB_okv n (d - 1))

/-- what Apply gives -/
theorem app_long {v : V} {n : Nat} (h : 16 ≤ n) : applyV v [⟨1, thePath n, intV 1⟩] = .error 1 := by
  have hc : checkV [⟨1, thePath n, intV 1⟩] = 1 := by
    unfold checkV
    rw [if_neg (by simp), if_neg]
    simp [rightO, path_len]
    intro h1
    omega
  unfold applyV
  rw [hc]
  rfl

theorem right_path {n : Nat} (h : n < 16) : rightO ⟨1, thePath n, intV 1⟩ = true := by
  unfold rightO
  rw [show (⟨1, thePath n, intV 1⟩ : PO).path.length = n + 1 from path_len n, decide_eq_true (by omega), decide_eq_true (by omega)]
  rfl

theorem app_none {n d : Nat} (h : n < 16) (hd : d < n) : applyV (nest d) [⟨1, thePath n, intV 1⟩] = .error 5 := by
  unfold applyV
  rw [check_zero (by simp) (fun o ho => by rw [show o = ⟨1, thePath n, intV 1⟩ by simpa using ho]; exact right_path h), if_neg (by simp), runV, along_none n d hd]

theorem app_some {n d : Nat} (h : n < 16) (hd : n ≤ d) (h30 : d ≤ 30) : applyV (nest d) [⟨1, thePath n, intV 1⟩] = .ok (nestB n d) := by
  unfold applyV
  rw [check_zero (by simp) (fun o ho => by rw [show o = ⟨1, thePath n, intV 1⟩ by simpa using ho]; exact right_path h), if_neg (by simp), runV, (along_nest n d hd).1]
  simp only
  rw [runV]
  simp only
  rw [if_pos (nestB_right n d 32 hd (by omega))]

theorem got_a (n d : Nat) : valF (nestB (n + 1) d).fields na = nestB n (d - 1) := by
  show ((getF [(na, nestB n (d - 1))] na).getD V.null) = _
  rw [get_a]; rfl

theorem got_b (d : Nat) : valF (nestB 0 d).fields nb = intV 1 ∧ isF (nestB 0 d).fields nb = true := by
  cases d with
  | zero => exact ⟨by simp [nestB, V.ofMap, V.fields, valF, getF], by simp [nestB, V.ofMap, V.fields, isF, getF]⟩
  | succ d => exact ⟨by simp [nestB, V.ofMap, V.fields, valF, getF, na_ne], by simp [nestB, V.ofMap, V.fields, isF, getF, na_ne]⟩

theorem nestB_kind (n d : Nat) : (nestB n d).kind = 5 := by cases n <;> cases d <;> rfl

end Go.Proofs.Ytljhcnlifdmacaa.patchPaths
