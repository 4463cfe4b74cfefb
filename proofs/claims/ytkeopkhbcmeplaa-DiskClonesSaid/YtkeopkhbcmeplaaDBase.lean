/-
  disk: a disk in memory, plainly; Down, isName, turn.
-/
import Derived.Test.YtkeopkhbcmeplaaDMap
import Derived.Test.YtkeopkhbcmeplaaOwn
import Derived.RegionTactic
import Derived.Deep.QuietTactic
import Derived.BigQuiet
import Derived.ChangeAlike
namespace Go.Proofs.Ytkeopkhbcmeplaa
open Go.RowKit

abbrev L8 := List UInt8

/-- a file: its name, its bytes, how many of them are safe -/
structure FileS where
  name : L8
  data : L8
  safe : Nat

/-- a disk beside its files, plainly -/
structure DS where
  room : Int
  used : Int
  falls : Bool
  left : Int
  down : Bool

/-- a file with the slice that holds its bytes -/
abbrev FP := FileS × Value
def fileV (p : FP) : Value := .agg #[p.2, .int .i64 p.1.safe]

/-- the files' values, as the map holds them -/
def fvals (fs : List FP) : FL := fs.map fun p => (p.1.name, fileV p)
def insP (x : FP) : List FP → List FP
  | [] => [x]
  | y :: r => if bytesBefore x.1.name y.1.name then x :: y :: r else y :: insP x r
def delP (k : L8) (fs : List FP) : List FP := fs.filter fun p => !(p.1.name == k)
def putP (x : FP) (fs : List FP) : List FP := insP x (delP x.1.name fs)
def getP (k : L8) (fs : List FP) : Option FP := fs.find? fun p => p.1.name == k

theorem fvals_ins (x : FP) : ∀ fs : List FP, fvals (insP x fs) = insS (x.1.name, fileV x) (fvals fs)
  | [] => rfl
  | y :: r => by
    have ih := fvals_ins x r
    unfold fvals at ih ⊢
    rw [insP, List.map_cons, insS]
    by_cases h : bytesBefore x.1.name y.1.name = true
    · rw [if_pos h, if_pos h]; simp
    · rw [if_neg h, if_neg h, List.map_cons, ih]
theorem fvals_del (k : L8) (fs : List FP) : fvals (delP k fs) = delS k (fvals fs) := by
  unfold fvals delP delS
  rw [List.filter_map]
  rfl
theorem fvals_put (x : FP) (fs : List FP) : fvals (putP x fs) = putS x.1.name (fileV x) (fvals fs) := by
  unfold putP putS
  rw [fvals_ins, fvals_del]
theorem fvals_get (k : L8) (fs : List FP) : getS k (fvals fs) = (getP k fs).map fileV := by
  unfold getS getP fvals
  rw [List.find?_map]
  simp only [Option.map_map]
  rfl

theorem insP_mem {x y : FP} : ∀ {fs : List FP}, y ∈ insP x fs → y = x ∨ y ∈ fs
  | [], h => by simpa [insP] using h
  | z :: r, h => by
    rw [insP] at h
    by_cases g : bytesBefore x.1.name z.1.name = true
    · rw [if_pos g] at h
      exact (List.mem_cons.1 h).imp id id
    · rw [if_neg g] at h
      rcases List.mem_cons.1 h with h | h
      · exact .inr (h ▸ List.mem_cons_self ..)
      · exact (insP_mem h).imp id (List.mem_cons_of_mem _)
theorem delP_mem {k : L8} {y : FP} {fs : List FP} (h : y ∈ delP k fs) : y ∈ fs := (List.mem_filter.1 h).1

/-- each file's bytes lie in a row of its own -/
def Rows (w : World) (B : Nat) (fs : List FP) : Prop := ∀ p ∈ fs, Bs 5 B w p.2 p.1.data

/-- the blocks of a disk: its own, its map's, its files' rows -/
def Foot (d mb : Nat) (fs : List FP) (q : Nat) : Prop := q = d ∨ q = mb ∨ ∃ p ∈ fs, p.2.ownBlock = some q

def box6 (mb : Nat) (S : DS) : Array Value := #[.map (some mb), .int .i64 S.room, .int .i64 S.used, .bool S.falls, .int .i64 S.left, .bool S.down]

def Box (w : World) (g : Nat) (t : TypeId) (cs : Array Value) : Prop := w.heap[g]? = some (.cells cs t (0, 0))
theorem Box.cell {w : World} {g : Nat} {t : TypeId} {cs : Array Value} (h : Box w g t cs) (i : Nat) : w.cell? ⟨g, i, none⟩ = cs[i]? := cell_of_row w g i cs t (0, 0) h
theorem Box.free {w : World} {g : Nat} {t : TypeId} {cs : Array Value} (h : Box w g t cs) (i : Nat) : w.frozen? ⟨g, i, none⟩ = false := by
  unfold Box at h
  simp [World.frozen?, h]
theorem Box.lt {w : World} {g : Nat} {t : TypeId} {cs : Array Value} (h : Box w g t cs) : g < w.heap.size := by
  unfold Box at h
  exact (Array.getElem?_eq_some_iff.1 h).1
theorem Box.setSame {w : World} {g : Nat} {t : TypeId} {cs : Array Value} (h : Box w g t cs) (i : Nat) (u : Value) : Box (w.setCell ⟨g, i, none⟩ u) g t (cs.setIfInBounds i u) := by
  unfold Box at h ⊢
  simp [World.setCell, Array.getElem?_modify, h]
theorem Box.six {w : World} {g : Nat} {c0 c1 c2 c3 c4 c5 : Value} {t : TypeId} (h : Box w g t #[c0, c1, c2, c3, c4, c5]) :
    (w.cell? ⟨g, 0, none⟩ = some c0 ∧ w.cell? ⟨g, 1, none⟩ = some c1 ∧ w.cell? ⟨g, 2, none⟩ = some c2 ∧ w.cell? ⟨g, 3, none⟩ = some c3 ∧ w.cell? ⟨g, 4, none⟩ = some c4 ∧ w.cell? ⟨g, 5, none⟩ = some c5) ∧
    (w.frozen? ⟨g, 0, none⟩ = false ∧ w.frozen? ⟨g, 1, none⟩ = false ∧ w.frozen? ⟨g, 2, none⟩ = false ∧ w.frozen? ⟨g, 3, none⟩ = false ∧ w.frozen? ⟨g, 4, none⟩ = false ∧ w.frozen? ⟨g, 5, none⟩ = false) :=
  ⟨⟨h.cell 0, h.cell 1, h.cell 2, h.cell 3, h.cell 4, h.cell 5⟩, h.free 0, h.free 1, h.free 2, h.free 3, h.free 4, h.free 5⟩

/-- a disk at d: B: its blocks lie from B on; n: the map's bound -/
def DiskAt (w : World) (B d mb n : Nat) (S : DS) (fs : List FP) : Prop :=
  Box w d 63 (box6 mb S) ∧ MapAt 9 w mb n (fvals fs) ∧ Rows w B fs ∧ B ≤ d ∧ B ≤ mb ∧ d ≠ mb ∧
  (∀ p ∈ fs, p.2.ownBlock ≠ some d ∧ p.2.ownBlock ≠ some mb) ∧ fs.Pairwise (fun a b => a.2.ownBlock = none ∨ a.2.ownBlock ≠ b.2.ownBlock)

/-- what a call may have turned: the disk's own blocks alone -/
def DKept (w w' : World) (foot : Nat → Prop) : Prop := w'.os = w.os ∧ w'.tape = w.tape ∧ w'.output = w.output ∧ w.heap.size ≤ w'.heap.size ∧ ∀ q, q < w.heap.size → ¬ foot q → w'.heap[q]? = w.heap[q]?

theorem DKept.refl (w : World) (f : Nat → Prop) : DKept w w f := ⟨rfl, rfl, rfl, Nat.le_refl _, fun _ _ _ => rfl⟩

theorem bs_keep {w w' : World} {B : Nat} {v : Value} {l : List UInt8} (h : Bs 5 B w v l) (hk : ∀ q, v.ownBlock = some q → w'.heap[q]? = w.heap[q]?) : Bs 5 B w' v l :=
  ⟨h.1, h.2.imp id fun ⟨g, cap, cur, e1, e2, e3, e4⟩ => ⟨g, cap, cur, e1, e2, (hk g (by rw [e1]; rfl)).trans e3, e4⟩⟩
theorem rows_kept {w w' : World} {B : Nat} {fs : List FP} (h : Rows w B fs) (hk : ∀ p ∈ fs, ∀ q, p.2.ownBlock = some q → w'.heap[q]? = w.heap[q]?) : Rows w' B fs := fun p hp => bs_keep (h p hp) (hk p hp)

/-- what no block of the disk's turns keeps the disk -/
theorem DiskAt.keep {w w' : World} {B d mb n : Nat} {S : DS} {fs : List FP} (h : DiskAt w B d mb n S fs) (hk : ∀ q, Foot d mb fs q → w'.heap[q]? = w.heap[q]?) : DiskAt w' B d mb n S fs := by
  obtain ⟨h1, h2, h3, h4⟩ := h
  exact ⟨(hk d (.inl rfl)).trans h1, h2.kept (hk mb (.inr (.inl rfl))), rows_kept h3 fun p hp q hq => hk q (.inr (.inr ⟨p, hp, hq⟩)), h4⟩

/-- one of the disk's six cells is stored -/
theorem DiskAt.set {w : World} {B d mb n : Nat} {S S' : DS} {fs : List FP} (h : DiskAt w B d mb n S fs) (i : Nat) (u : Value) (hb : (box6 mb S).setIfInBounds i u = box6 mb S') : DiskAt (w.setCell ⟨d, i, none⟩ u) B d mb n S' fs := by
  obtain ⟨h1, h2, h3, h4, h5, h6, h7, h8⟩ := h
  have hk : ∀ q, q ≠ d → (w.setCell ⟨d, i, none⟩ u).heap[q]? = w.heap[q]? := fun q hq => Below.heap_setCell w ⟨d, i, none⟩ u q hq
  refine ⟨by have := h1.setSame i u; rw [hb] at this; exact this, h2.kept (hk mb (Ne.symm h6)), rows_kept h3 fun p hp q hq => hk q (fun e => (h7 p hp).1 (by rw [hq, e])), h4, h5, h6, h7, h8⟩

theorem kept_set {w : World} {d : Nat} (mb : Nat) (fs : List FP) (i : Nat) (u : Value) : DKept w (w.setCell ⟨d, i, none⟩ u) (Foot d mb fs) :=
  ⟨rfl, rfl, rfl, by simp [World.setCell], fun q _ hq => Below.heap_setCell w ⟨d, i, none⟩ u q fun e => hq (.inl e)⟩

theorem down_any {B d mb n : Nat} {S : DS} {fs : List FP} (w : World) (h : DiskAt w B d mb n S fs) :
    Calls Try.prog 21 #[.pointer (some ⟨d, 0, none⟩)] w fun e w' => e = .returned (.bool S.down) ∧ w = w' := by
  obtain ⟨⟨c0, c1, c2, c3, c4, c5⟩, _⟩ := Box.six h.1
  clear h
  go_enter Try.func21, Try.ntmps21
  go_wp2
  go_ret
  exact ⟨rfl, rfl⟩

theorem isName_any (s : ByteArray) (w : World) : Calls Try.prog 37 #[.string s] w fun e w' => e = .returned (.bool (!s.toList.isEmpty && decide ((s.size : Int) ≤ 40))) ∧ w = w' := by
  by_cases h : s.toList = []
  · have e4 : s.toList.isEmpty = true := by rw [h]; rfl
    have HF : Hid ((!s.toList.isEmpty && decide ((s.size : Int) ≤ 40)) = false) := Lib.hid (by rw [e4]; rfl)
    go_enter Try.func37, Try.ntmps37
    go_wp2
    go_ret
    exact ⟨by rw [HF.out]; rfl, rfl⟩
  · have e4 : s.toList.isEmpty = false := by simpa using h
    have HF : Hid ((!s.toList.isEmpty && decide ((s.size : Int) ≤ 40)) = decide ((s.size : Int) ≤ 40)) := Lib.hid (by rw [e4]; rfl)
    go_enter Try.func37, Try.ntmps37
    go_wp2
    go_ret
    exact ⟨by rw [HF.out]; rfl, rfl⟩

/-- a turn: whether there is power, and the disk behind it -/
def DS.turn (S : DS) : Bool × DS :=
  if S.down then (false, S) else if S.falls && S.left == 0 then (false, { S with down := true }) else if S.falls then (true, { S with left := S.left - 1 }) else (true, S)

set_option maxHeartbeats 1000000 in
theorem turn_any {B d mb n : Nat} {S : DS} {fs : List FP} (w : World) (h : DiskAt w B d mb n S fs) (hl : 0 ≤ S.left) (hl2 : S.left ≤ 9223372036854775807) :
    Calls Try.prog 36 #[.pointer (some ⟨d, 0, none⟩)] w fun e w' => e = .returned (.bool S.turn.1) ∧ DiskAt w' B d mb n S.turn.2 fs ∧ DKept w w' (Foot d mb fs) := by
  obtain ⟨⟨c0, c1, c2, c3, c4, c5⟩, f0, f1, f2, f3, f4, f5⟩ := Box.six h.1
  have HD := Lib.hid (down_any w h)
  have HH := Lib.hid h
  clear h
  cases hd : S.down
  · have hd2 := hd
    rw [hd] at HD c5
    cases hf : S.falls
    · have HT : Hid (S.turn = (true, S)) := Lib.hid (by unfold DS.turn; rw [if_neg (by rw [hd2]; simp), if_neg (by rw [hf]; simp), if_neg (by rw [hf]; simp)])
      rw [hf] at c3
      clear hd hd2 hf
      go_enter Try.func36, Try.ntmps36
      go_wp2_with fail
      refine HD.out.mono ?_
      rintro e w1 ⟨rfl, rfl⟩
      go_wp2
      go_ret
      rw [HT.out]
      exact ⟨rfl, HH.out, DKept.refl _ _⟩
    · have hf2 := hf
      rw [hf] at c3
      by_cases h0 : S.left = 0
      · have g0 : (S.left == 0) = true := by rw [h0]; rfl
        have HT : Hid (S.turn = (false, { S with down := true })) := Lib.hid (by unfold DS.turn; rw [if_neg (by rw [hd2]; simp), if_pos (by rw [hf2, g0]; rfl)])
        have HS := Lib.hid (HH.out.set (S' := { S with down := true }) 5 (.bool true) rfl)
        clear hd hf hd2 hf2
        go_enter Try.func36, Try.ntmps36
        go_wp2_with fail
        refine HD.out.mono ?_
        rintro e w1 ⟨rfl, rfl⟩
        go_wp2
        go_ret
        rw [HT.out]
        exact ⟨rfl, HS.out, kept_set mb fs 5 _⟩
      · have g0 : (S.left == 0) = false := by rw [beq_eq_false_iff_ne]; exact h0
        have HT : Hid (S.turn = (true, { S with left := S.left - 1 })) := Lib.hid (by unfold DS.turn; rw [if_neg (by rw [hd2]; simp), if_neg (by rw [hf2, g0]; simp), if_pos hf2])
        have hl3 : 1 ≤ S.left := by omega
        have HS := Lib.hid (HH.out.set (S' := { S with left := S.left - 1 }) 4 (.int .i64 (S.left - 1)) rfl)
        clear hd hf hd2 hf2 h0
        go_enter Try.func36, Try.ntmps36
        go_wp2_with fail
        refine HD.out.mono ?_
        rintro e w1 ⟨rfl, rfl⟩
        go_wp2
        go_ret
        rw [HT.out]
        exact ⟨rfl, HS.out, kept_set mb fs 4 _⟩
  · have HT : Hid (S.turn = (false, S)) := Lib.hid (by unfold DS.turn; rw [if_pos hd])
    rw [hd] at HD
    clear hd
    go_enter Try.func36, Try.ntmps36
    go_wp2_with fail
    refine HD.out.mono ?_
    rintro e w1 ⟨rfl, rfl⟩
    go_wp2
    go_ret
    rw [HT.out]
    exact ⟨rfl, HH.out, DKept.refl _ _⟩

end Go.Proofs.Ytkeopkhbcmeplaa
