/-
  An act, of the model plainly; what a disk's files are behind a file laid, or gone.
-/
import Derived.Test.YtkeopkhbcmeplaaDModel
namespace Go.Proofs.Ytkeopkhbcmeplaa
open Go.RowKit Go.ChangeMaps Go.MapKept Go.WideMaps Go.WideAt Go.WideShapes

structure ActS where
  k : Int
  n : Int
  name : ByteArray
  dest : ByteArray
  data : ByteArray

def bl (s : ByteArray) : L8 := s.data.toList
theorem bl_length (s : ByteArray) : (bl s).length = s.size := by unfold bl; rw [Array.length_toList]; rfl

def MS.room (M : MS) : Int := M.size - sumF M.files
def MS.turn (M : MS) : Bool × MS := if M.down || M.falls == 0 then (false, { M with down := true }) else (true, { M with falls := if 0 < M.falls then M.falls - 1 else M.falls })
def mput (x : FileS) (gs : List FileS) : List FileS := hd x.name gs ++ x :: tl2 x.name gs
def mdrop (k : L8) (gs : List FileS) : List FileS := hd k gs ++ tl2 k gs
/-- the file that is there (or none: an empty one) -/
def mfile (k : L8) (gs : List FileS) : FileS := if isAt k gs then (match tl k gs with | f :: _ => f | [] => ⟨k, [], 0⟩) else ⟨k, [], 0⟩

def MS.app (M : MS) (s b : ByteArray) : Int × MS :=
  if nameB s = false then (1, M) else if M.room < (b.size : Int) then (7, M) else (0, { M with files := mput { mfile (bl s) M.files with data := (mfile (bl s) M.files).data ++ bl b } M.files })
def MS.sync (M : MS) (s : ByteArray) : Int × MS :=
  if isAt (bl s) M.files = false then (5, M) else (0, { M with files := hd (bl s) M.files ++ { mfile (bl s) M.files with safe := (mfile (bl s) M.files).data.length } :: tl2 (bl s) M.files })
def MS.ren (M : MS) (s t : ByteArray) : Int × MS :=
  if nameB t = false then (1, M) else if isAt (bl s) M.files = false then (5, M) else (0, { M with files := mput { mfile (bl s) M.files with name := bl t } (mdrop (bl s) M.files) })
def MS.rem (M : MS) (s : ByteArray) : Int × MS :=
  if isAt (bl s) M.files = false then (5, M) else (0, { M with files := mdrop (bl s) M.files })
def MS.tru (M : MS) (s : ByteArray) (z : Int) : Int × MS :=
  if isAt (bl s) M.files = false then (5, M) else if z < 0 ∨ ((mfile (bl s) M.files).data.length : Int) < z then (1, M) else
    (0, { M with files := hd (bl s) M.files ++ { mfile (bl s) M.files with data := (mfile (bl s) M.files).data.take z.toNat, safe := min (mfile (bl s) M.files).safe z.toNat } :: tl2 (bl s) M.files })

/-- behind a turn with power -/
def MS.step (M : MS) (K : Int) (a : ActS) : Int × MS :=
  if K = 0 then M.app a.name a.data else if K = 1 then M.sync a.name else if K = 2 then M.ren a.name a.dest else if K = 3 then M.rem a.name else M.tru a.name a.n
def ActS.K (a : ActS) : Int := (a.k % 18446744073709551616) % 6
def MS.act (M : MS) (a : ActS) : Int × MS :=
  if a.K = 5 then (0, { M with falls := max a.n 0 }) else if M.turn.1 = false then (8, M.turn.2) else M.turn.2.step a.K a

theorem turn_rel {S : DS} {gs : List FileS} (h : Inv S gs) : (MS.of S gs).turn = (S.turn.1, MS.of S.turn.2 gs) := by
  have h4 := h.left0
  unfold MS.turn DS.turn MS.of
  cases hd : S.down <;> cases hf : S.falls
  · simp [hd, hf]
  · by_cases h0 : S.left = 0
    · simp [h0]
    · have e1 : (S.left == 0) = false := by simpa using h0
      simp [e1]
      omega
  · simp [hd, hf]
  · simp [hd, hf]

theorem mfile_get {k : L8} {gs : List FileS} (h : RiseF gs) : mfile k gs = (getF k gs).getD ⟨k, [], 0⟩ := by
  rw [(at_place k h).1]
  unfold mfile
  cases e : isAt k gs with
  | false => rfl
  | true =>
    obtain ⟨f, r, e1, _⟩ := isAt_split e
    rw [e1]; rfl

theorem mfile_name {k : L8} {gs : List FileS} (h : RiseF gs) : (mfile k gs).name = k := by
  rw [mfile_get h]
  cases e : getF k gs with
  | none => rfl
  | some f => have := List.find?_some e; simpa using this

theorem insP_length (x : FP) : ∀ fs : List FP, (insP x fs).length = fs.length + 1
  | [] => rfl
  | y :: r => by
    rw [insP]
    split
    · rfl
    · rw [List.length_cons, insP_length x r]; rfl
theorem putP_length (x : FP) (fs : List FP) : (putP x fs).length ≤ fs.length + 1 := by
  unfold putP
  rw [insP_length]
  have : (delP x.1.name fs).length ≤ fs.length := List.length_filter_le _ _
  omega
theorem delP_length (k : L8) (fs : List FP) : (delP k fs).length ≤ fs.length := List.length_filter_le _ _

theorem fl_mem {fs : List FP} {f : FileS} (h : f ∈ fl fs) : ∃ p ∈ fs, p.1 = f := by
  unfold fl at h
  simpa using List.mem_map.1 h
theorem mem_fl {fs : List FP} {p : FP} (h : p ∈ fs) : p.1 ∈ fl fs := List.mem_map_of_mem h

theorem Inv.put {S S' : DS} {fs : List FP} (h : Inv S (fl fs)) (x : FP) (hx : x.1.safe ≤ x.1.data.length) (hxn : x.1.name.length ≤ 40) (hr : S'.room = S.room) (hl : S'.left = S.left) (hu : S'.used = S.used + ((x.1.data.length : Int) - lenOf x.1.name fs)) (hf : S'.used ≤ S.room) : Inv S' (fl (putP x fs)) := by
  have hrise := (fl_rise _).2 h.rise
  refine ⟨(fl_rise _).1 (hrise.put x), ?_, fun f hf2 => ?_, fun f hf2 => ?_, by rw [hl]; exact h.left0, by rw [hl]; exact h.left1, by rw [hr]; exact h.room0, by rw [hr]; exact h.room1, by rw [hr]; exact hf⟩
  · rw [← fl_sum, sumP_put hrise, hu, h.used, ← fl_sum]
  · obtain ⟨p, hp, rfl⟩ := fl_mem hf2
    rcases insP_mem hp with rfl | hp
    · exact hx
    · exact h.safe _ (mem_fl (delP_mem hp))
  · obtain ⟨p, hp, rfl⟩ := fl_mem hf2
    rcases insP_mem hp with rfl | hp
    · exact hxn
    · exact h.short _ (mem_fl (delP_mem hp))

theorem Inv.del {S S' : DS} {fs : List FP} (h : Inv S (fl fs)) (k : L8) (hr : S'.room = S.room) (hl : S'.left = S.left) (hu : S'.used = S.used - lenOf k fs) : Inv S' (fl (delP k fs)) := by
  have hrise := (fl_rise _).2 h.rise
  have hs := sumP_del (k := k) hrise
  have h8 := h.fits
  have h2 := h.used
  rw [← fl_sum] at h2
  refine ⟨(fl_rise _).1 (hrise.del k), by rw [← fl_sum, hu, h2]; omega, fun f hf2 => ?_, fun f hf2 => ?_, by rw [hl]; exact h.left0, by rw [hl]; exact h.left1, by rw [hr]; exact h.room0, by rw [hr]; exact h.room1, by rw [hr]; omega⟩
  · obtain ⟨p, hp, rfl⟩ := fl_mem hf2
    exact h.safe _ (mem_fl (delP_mem hp))
  · obtain ⟨p, hp, rfl⟩ := fl_mem hf2
    exact h.short _ (mem_fl (delP_mem hp))

theorem Inv.of_eq {S S' : DS} {gs : List FileS} (h : Inv S gs) (hr : S'.room = S.room) (hl0 : 0 ≤ S'.left) (hl1 : S'.left ≤ 9223372036854775807) (hu : S'.used = S.used) : Inv S' gs :=
  ⟨h.rise, by rw [hu]; exact h.used, h.safe, h.short, hl0, hl1, by rw [hr]; exact h.room0, by rw [hr]; exact h.room1, by rw [hu, hr]; exact h.fits⟩

theorem Inv.lenOf_le {S : DS} {fs : List FP} (h : Inv S (fl fs)) (k : L8) : (lenOf k fs : Int) ≤ S.used := by
  have h1 := Go.Proofs.Ytkeopkhbcmeplaa.lenOf_le (k := k) ((fl_rise _).2 h.rise)
  have h2 := h.used
  rw [← fl_sum] at h2
  omega

/-- what the look-up gives is what the model finds -/
theorem get_model {S : DS} {fs : List FP} (h : Inv S (fl fs)) (k : L8) : (getP k fs = none ∧ isAt k (fl fs) = false ∧ mfile k (fl fs) = ⟨k, [], 0⟩) ∨ ∃ p, getP k fs = some p ∧ isAt k (fl fs) = true ∧ mfile k (fl fs) = p.1 ∧ p.1.name = k ∧ p ∈ fs := by
  have h1 := get_is (k := k) h.rise
  have h2 := mfile_get (k := k) h.rise
  have h3 := fl_get k fs
  cases e : getP k fs with
  | none =>
    rw [e] at h3
    rw [h3] at h1 h2
    exact .inl ⟨rfl, h1.symm, h2⟩
  | some p =>
    rw [e] at h3
    rw [h3] at h1 h2
    exact .inr ⟨p, rfl, h1.symm, h2, (getP_name e).1, (getP_name e).2⟩

theorem short_of_name {s : ByteArray} (h : ¬ nameB s = false) : (bl s).length ≤ 40 := by
  rw [bl_length]
  unfold nameB at h
  simp at h
  omega

theorem Inv.get_short {S : DS} {fs : List FP} (h : Inv S (fl fs)) {k : L8} {p : FP} (hg : getP k fs = some p) : k.length ≤ 40 := by
  have := h.short _ (mem_fl (getP_name hg).2)
  rwa [(getP_name hg).1] at this

end Go.Proofs.Ytkeopkhbcmeplaa

