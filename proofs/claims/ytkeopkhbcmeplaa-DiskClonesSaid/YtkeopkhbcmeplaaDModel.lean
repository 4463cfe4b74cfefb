/-
  A disk's files plainly, without their slices; the law's model beside them: where a file is, or would be.
-/
import Derived.Test.YtkeopkhbcmeplaaDPlain2
import Derived.Test.YtkeopkhbcmeplaaDTr
import Derived.Test.YtkeopkhbcmeplaaDRen
namespace Go.Proofs.Ytkeopkhbcmeplaa
open Go.RowKit Go.ChangeMaps Go.MapKept Go.WideMaps Go.WideAt Go.WideShapes

def insF (x : FileS) : List FileS → List FileS
  | [] => [x]
  | y :: r => if bytesBefore x.name y.name then x :: y :: r else y :: insF x r
def delF (k : L8) (gs : List FileS) : List FileS := gs.filter fun f => !(f.name == k)
def putF (x : FileS) (gs : List FileS) : List FileS := insF x (delF x.name gs)
def getF (k : L8) (gs : List FileS) : Option FileS := gs.find? fun f => f.name == k
def lenF (k : L8) (gs : List FileS) : Nat := match getF k gs with | some f => f.data.length | none => 0
def sumF (gs : List FileS) : Nat := (gs.map fun f => f.data.length).sum
def RiseF (gs : List FileS) : Prop := gs.Pairwise fun a b => bytesBefore a.name b.name = true

def fl (fs : List FP) : List FileS := fs.map (·.1)

theorem fl_ins (x : FP) : ∀ fs : List FP, fl (insP x fs) = insF x.1 (fl fs)
  | [] => rfl
  | y :: r => by
    have ih := fl_ins x r
    unfold fl at ih ⊢
    rw [insP, List.map_cons, insF]
    by_cases h : bytesBefore x.1.name y.1.name = true
    · rw [if_pos h, if_pos h]; rfl
    · rw [if_neg h, if_neg h, List.map_cons, ih]
theorem fl_del (k : L8) (fs : List FP) : fl (delP k fs) = delF k (fl fs) := by
  unfold fl delP delF
  rw [List.filter_map]
  rfl
theorem fl_put (x : FP) (fs : List FP) : fl (putP x fs) = putF x.1 (fl fs) := by
  unfold putP putF
  rw [fl_ins, fl_del]
theorem fl_get (k : L8) (fs : List FP) : getF k (fl fs) = (getP k fs).map (·.1) := by
  unfold getF getP fl
  rw [List.find?_map]
  rfl
theorem fl_len (k : L8) (fs : List FP) : lenOf k fs = lenF k (fl fs) := by
  unfold lenOf lenF
  rw [fl_get]
  cases getP k fs <;> rfl
theorem fl_sum (fs : List FP) : sumP fs = sumF (fl fs) := by
  unfold sumP sumF fl
  rw [List.map_map]; rfl
theorem fl_rise (fs : List FP) : RiseN fs ↔ RiseF (fl fs) := by
  unfold RiseN RiseF fl
  rw [List.pairwise_map]
theorem fl_length (fs : List FP) : (fl fs).length = fs.length := by unfold fl; rw [List.length_map]

/-- the files ahead of a name, and the others -/
def hd (k : L8) (gs : List FileS) : List FileS := gs.takeWhile fun f => bytesBefore f.name k
def tl (k : L8) (gs : List FileS) : List FileS := gs.dropWhile fun f => bytesBefore f.name k
def isAt (k : L8) (gs : List FileS) : Bool := match tl k gs with | f :: _ => f.name == k | [] => false
/-- what is behind a name -/
def tl2 (k : L8) (gs : List FileS) : List FileS := if isAt k gs then (tl k gs).tail else tl k gs

theorem hd_tl (k : L8) (gs : List FileS) : hd k gs ++ tl k gs = gs := List.takeWhile_append_dropWhile

theorem hd_cons {k : L8} {y : FileS} {r : List FileS} : hd k (y :: r) = if bytesBefore y.name k then y :: hd k r else [] := by
  unfold hd; rw [List.takeWhile_cons]
theorem tl_cons {k : L8} {y : FileS} {r : List FileS} : tl k (y :: r) = if bytesBefore y.name k then tl k r else y :: r := by
  unfold tl; rw [List.dropWhile_cons]

theorem not_both {a b : L8} (h : bytesBefore a b = true) : bytesBefore b a = false := by
  cases g : bytesBefore b a with
  | false => rfl
  | true =>
    have := bytes_trans _ _ _ h g
    rw [bytes_irrefl] at this
    cases this

/-- where a name isn't, nor is behind: all that is there is behind it -/
theorem all_behind {k : L8} {y : FileS} {r : List FileS} (h : RiseF (y :: r)) (hy : bytesBefore k y.name = true) : ∀ f ∈ y :: r, bytesBefore k f.name = true := fun f hf => by
  have h1 := List.pairwise_cons.1 h
  rcases List.mem_cons.1 hf with rfl | hf
  · exact hy
  · exact bytes_trans _ _ _ hy (h1.1 f hf)

theorem ne_of_before {a b : L8} (h : bytesBefore a b = true) : b ≠ a := fun e => by rw [e, bytes_irrefl] at h; cases h

theorem get_off {k : L8} {gs : List FileS} (h : ∀ f ∈ gs, bytesBefore k f.name = true) : getF k gs = none :=
  List.find?_eq_none.2 fun f hf e => ne_of_before (h f hf) (by simpa using e)
theorem del_off {k : L8} {gs : List FileS} (h : ∀ f ∈ gs, f.name ≠ k) : delF k gs = gs := List.filter_eq_self.2 fun f hf => by simpa using h f hf
theorem ins_off {x : FileS} {gs : List FileS} (h : ∀ f ∈ gs, bytesBefore x.name f.name = true) : insF x gs = x :: gs := by
  cases gs with
  | nil => rfl
  | cons y r => rw [insF, if_pos (h y (List.mem_cons_self ..))]

/-- get, del, put by the place -/
theorem at_place (k : L8) : ∀ {gs : List FileS}, RiseF gs →
    getF k gs = (if isAt k gs then (tl k gs).head? else none) ∧ delF k gs = hd k gs ++ tl2 k gs ∧ ∀ x : FileS, x.name = k → putF x gs = hd k gs ++ x :: tl2 k gs
  | [], _ => ⟨rfl, rfl, fun x hx => by unfold putF; rfl⟩
  | y :: r, h => by
    have h1 := List.pairwise_cons.1 h
    by_cases hy : bytesBefore y.name k = true
    · obtain ⟨i1, i2, i3⟩ := at_place k (gs := r) h1.2
      have e1 : tl k (y :: r) = tl k r := by rw [tl_cons, if_pos hy]
      have e2 : hd k (y :: r) = y :: hd k r := by rw [hd_cons, if_pos hy]
      have e3 : isAt k (y :: r) = isAt k r := by unfold isAt; rw [e1]
      have e4 : tl2 k (y :: r) = tl2 k r := by unfold tl2; rw [e3, e1]
      have hne : (y.name == k) = false := by simpa using (ne_of_before hy).symm
      refine ⟨?_, ?_, fun x hx => ?_⟩
      · rw [e3, e1, ← i1]; unfold getF; rw [List.find?_cons, hne]
      · rw [e2, e4, List.cons_append, ← i2]; unfold delF; rw [List.filter_cons, if_pos (by simp [hne])]
      · rw [e2, e4, List.cons_append, ← i3 x hx]
        unfold putF
        have e5 : delF x.name (y :: r) = y :: delF x.name r := by unfold delF; rw [List.filter_cons, hx, if_pos (by simp [hne])]
        rw [e5, insF, if_neg (by rw [hx, not_both hy]; simp)]
    · have e1 : tl k (y :: r) = y :: r := by rw [tl_cons, if_neg hy]
      have e2 : hd k (y :: r) = [] := by rw [hd_cons, if_neg hy]
      by_cases hk : y.name = k
      · have e3 : isAt k (y :: r) = true := by unfold isAt; rw [e1]; simp [hk]
        have e4 : tl2 k (y :: r) = r := by unfold tl2; rw [e3, e1]; rfl
        have hr : ∀ f ∈ r, bytesBefore k f.name = true := fun f hf => hk ▸ h1.1 f hf
        have e6 : delF k (y :: r) = r := by
          unfold delF
          rw [List.filter_cons, if_neg (by simp [hk])]
          exact del_off fun f hf => ne_of_before (hr f hf)
        refine ⟨?_, ?_, fun x hx => ?_⟩
        · rw [e3, e1]; unfold getF; rw [List.find?_cons]; simp [hk]
        · rw [e2, e4, e6]; rfl
        · rw [e2, e4]
          unfold putF
          rw [hx, e6, ins_off fun f hf => by rw [hx]; exact hr f hf]; rfl
      · have hb : bytesBefore k y.name = true := by
          rcases bytes_total y.name k hk with h2 | h2
          · exact absurd h2 hy
          · exact h2
        have hall := all_behind h hb
        have e3 : isAt k (y :: r) = false := by unfold isAt; rw [e1]; simpa using hk
        have e4 : tl2 k (y :: r) = y :: r := by unfold tl2; rw [e3, e1]; rfl
        have e6 : delF k (y :: r) = y :: r := del_off fun f hf => ne_of_before (hall f hf)
        refine ⟨?_, ?_, fun x hx => ?_⟩
        · rw [e3, get_off hall]; rfl
        · rw [e2, e4, e6]; rfl
        · rw [e2, e4]
          unfold putF
          rw [hx, e6, ins_off fun f hf => by rw [hx]; exact hall f hf]; rfl

theorem get_is {k : L8} {gs : List FileS} (h : RiseF gs) : (getF k gs).isSome = isAt k gs := by
  rw [(at_place k h).1]
  cases e : isAt k gs with
  | false => rfl
  | true =>
    unfold isAt at e
    cases ht : tl k gs with
    | nil => rw [ht] at e; cases e
    | cons y r => rfl

/-- where a file is -/
theorem isAt_split {k : L8} {gs : List FileS} (h : isAt k gs = true) : ∃ f r, tl k gs = f :: r ∧ f.name = k ∧ gs = hd k gs ++ f :: r ∧ tl2 k gs = r := by
  have h0 := h
  unfold isAt at h
  cases ht : tl k gs with
  | nil => rw [ht] at h; cases h
  | cons y r =>
    rw [ht] at h
    refine ⟨y, r, rfl, by simpa using h, by rw [← ht, hd_tl], ?_⟩
    unfold tl2; rw [h0, ht]; rfl

/-! ### the model's own state -/
structure MS where
  files : List FileS
  size : Int
  down : Bool
  falls : Int

def MS.of (S : DS) (gs : List FileS) : MS := ⟨gs, S.room, S.down, if S.falls then S.left else -1⟩

/-- what is kept of a disk, turn by turn -/
structure Inv (S : DS) (gs : List FileS) : Prop where
  rise : RiseF gs
  used : S.used = sumF gs
  safe : ∀ f ∈ gs, f.safe ≤ f.data.length
  short : ∀ f ∈ gs, f.name.length ≤ 40
  left0 : 0 ≤ S.left
  left1 : S.left ≤ 9223372036854775807
  room0 : 0 ≤ S.room
  room1 : S.room ≤ 1048576
  fits : S.used ≤ S.room

theorem DS.turn_eq (S : DS) : S.turn.1 = !(S.down || (S.falls && S.left == 0)) ∧ S.turn.2.room = S.room ∧ S.turn.2.used = S.used ∧
    S.turn.2.down = (S.down || (S.falls && S.left == 0)) ∧ S.turn.2.falls = S.falls ∧ (S.turn.1 = true → S.falls = true → S.turn.2.left = S.left - 1) ∧ (S.turn.1 = false → S.turn.2.left = S.left) ∧ (S.falls = false → S.turn.2.left = S.left) := by
  unfold DS.turn
  cases hdn : S.down <;> cases hf : S.falls
  · simp [hdn, hf]
  · by_cases h0 : S.left = 0
    · simp [h0]
    · have : (S.left == 0) = false := by simpa using h0
      simp [this]
  · simp [hdn, hf]
  · simp [hdn, hf]

theorem Inv.turn {S : DS} {gs : List FileS} (h : Inv S gs) : Inv S.turn.2 gs := by
  obtain ⟨t1, t2, t3, t4, t5, t6, t7, t8⟩ := S.turn_eq
  obtain ⟨h1, h2, h3, h9, h4, h5, h6, h7, h8⟩ := h
  have hl : 0 ≤ S.turn.2.left ∧ S.turn.2.left ≤ 9223372036854775807 := by
    cases ht : S.turn.1 with
    | false => rw [t7 ht]; exact ⟨h4, h5⟩
    | true =>
      cases hf : S.falls with
      | false => rw [t8 hf]; exact ⟨h4, h5⟩
      | true =>
        rw [t6 ht hf]
        rw [ht, hf] at t1
        have : S.left ≠ 0 := fun e => by rw [e] at t1; simp at t1
        omega
  exact ⟨h1, by rw [t3]; exact h2, h3, h9, hl.1, hl.2, by rw [t2]; exact h6, by rw [t2]; exact h7, by rw [t2, t3]; exact h8⟩

end Go.Proofs.Ytkeopkhbcmeplaa
