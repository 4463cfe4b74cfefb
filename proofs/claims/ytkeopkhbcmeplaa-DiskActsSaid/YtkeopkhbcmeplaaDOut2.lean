/-
  What a disk tells, and what a loss of power leaves, by the model.
-/
import Derived.Test.YtkeopkhbcmeplaaDCr4
namespace Go.Proofs.Ytkeopkhbcmeplaa
open Go.RowKit

/-- a disk of these files -/
def DM (w : World) (B d n : Nat) (M : MS) : Prop := ∃ mb m S fs, MS.of S (fl fs) = M ∧ Inv S (fl fs) ∧ fs.length ≤ n ∧ m ≤ n ∧ DiskAt w B d mb m S fs

/-- a disk's turn: its own blocks alone -/
def DTurn (w w' : World) (B d n : Nat) (M : MS) : Prop := DM w' B d (n + 1) M ∧ ∃ mb fs, (∀ q, Foot d mb fs q → B ≤ q ∧ q < w.heap.size ∧ ((∃ cs T fz, w.heap[q]? = some (.cells cs T fz) ∧ (T = 63 ∨ T = 5)) ∨ ∃ es c, w.heap[q]? = some (.map es c))) ∧ DKept w w' (Foot d mb fs)

theorem DiskAt.foot_type {w : World} {B d mb n : Nat} {S : DS} {fs : List FP} (h : DiskAt w B d mb n S fs) : ∀ q, Foot d mb fs q → (∃ cs T fz, w.heap[q]? = some (.cells cs T fz) ∧ (T = 63 ∨ T = 5)) ∨ ∃ es c, w.heap[q]? = some (.map es c) := fun q hq => by
  obtain ⟨h1, h2, h3, _⟩ := h
  rcases hq with rfl | rfl | ⟨p, hp, hq⟩
  · exact .inl ⟨_, _, _, h1, .inl rfl⟩
  · obtain ⟨es, clock, hb, _⟩ := h2
    exact .inr ⟨_, _, hb⟩
  · rcases (h3 p hp).2 with ⟨e, _⟩ | ⟨g, cap, cur, e, _, hg, _⟩
    · rw [e] at hq; cases hq
    · rw [e] at hq
      obtain rfl : g = q := by simpa [Value.ownBlock] using hq
      exact .inl ⟨_, _, _, hg, .inr rfl⟩

theorem DM.turn {w : World} {B d n : Nat} {M : MS} (h : DM w B d n M) (hn : n < 1000000) (f : World → Prop)
    (hf : ∀ mb m S fs, MS.of S (fl fs) = M → Inv S (fl fs) → fs.length ≤ n → m < 1000000 → DiskAt w B d mb m S fs → (∀ w' a c, Out w w' B d mb m fs a c → DTurn w w' B d n a.2 ∧ c = a.1) → f w) : f w := by
  obtain ⟨mb, m, S, fs, e, hI, h1, h2, hD⟩ := h
  refine hf mb m S fs e hI h1 (by omega) hD fun w' a c ⟨S', fs', m', e1, e2, e3, e4, e5, e6, e7, _⟩ => ⟨⟨⟨mb, m', S', fs', e2, e3, by omega, by omega, e6⟩, mb, fs, fun q hq => ⟨hD.foot_ge q hq, hD.foot_lt q hq, hD.foot_type q hq⟩, e7⟩, e1⟩

/-- the answer and the disk behind a turn -/
def Told (w : World) (B d n : Nat) (r : Int × MS) (e : Ending) (w' : World) : Prop := e = .returned (.int .i64 r.1) ∧ DTurn w w' B d n r.2

theorem told_of {w : World} {B d mb m n : Nat} {fs : List FP} {r : Int × MS} (h : ∀ w' a c, Out w w' B d mb m fs a c → DTurn w w' B d n a.2 ∧ c = a.1) {e : Ending} {w' : World} (he : ∃ c, e = .returned (.int .i64 c) ∧ Out w w' B d mb m fs r c) : Told w B d n r e w' := by
  obtain ⟨c, rfl, ho⟩ := he
  obtain ⟨h1, h2⟩ := h w' _ c ho
  exact ⟨by rw [h2], h1⟩

theorem app_told {w : World} {B d n : Nat} {M : MS} (h : DM w B d n M) (hn : n < 1000000) (s b : ByteArray) (hs : s.size ≤ maxLen) :
    Calls Try.prog 20 #[.pointer (some ⟨d, 0, none⟩), .string s, .string b] w (Told w B d n (turned M fun M => M.app s b)) := by
  refine h.turn hn (fun w => Calls Try.prog _ _ w (Told w B d n (turned M fun M => M.app s b))) fun mb m S fs e hI h1 h2 hD ho => ?_
  rw [← e]
  exact (app_out w hD hI s b hs h2).mono fun e' w' he => told_of ho he
theorem sync_told {w : World} {B d n : Nat} {M : MS} (h : DM w B d n M) (hn : n < 1000000) (s : ByteArray) (hs : s.size ≤ maxLen) :
    Calls Try.prog 25 #[.pointer (some ⟨d, 0, none⟩), .string s] w (Told w B d n (turned M fun M => M.sync s)) := by
  refine h.turn hn (fun w => Calls Try.prog _ _ w (Told w B d n (turned M fun M => M.sync s))) fun mb m S fs e hI h1 h2 hD ho => ?_
  rw [← e]
  exact (sync_out w hD hI s hs h2).mono fun e' w' he => told_of ho he
theorem ren_told {w : World} {B d n : Nat} {M : MS} (h : DM w B d n M) (hn : n < 1000000) (s t : ByteArray) (hs : s.size ≤ maxLen) (ht : t.size ≤ maxLen) :
    Calls Try.prog 26 #[.pointer (some ⟨d, 0, none⟩), .string s, .string t] w (Told w B d n (turned M fun M => M.ren s t)) := by
  refine h.turn hn (fun w => Calls Try.prog _ _ w (Told w B d n (turned M fun M => M.ren s t))) fun mb m S fs e hI h1 h2 hD ho => ?_
  rw [← e]
  exact (ren_out w hD hI s t hs ht h2).mono fun e' w' he => told_of ho he
theorem rem_told {w : World} {B d n : Nat} {M : MS} (h : DM w B d n M) (hn : n < 1000000) (s : ByteArray) (hs : s.size ≤ maxLen) :
    Calls Try.prog 24 #[.pointer (some ⟨d, 0, none⟩), .string s] w (Told w B d n (turned M fun M => M.rem s)) := by
  refine h.turn hn (fun w => Calls Try.prog _ _ w (Told w B d n (turned M fun M => M.rem s))) fun mb m S fs e hI h1 h2 hD ho => ?_
  rw [← e]
  exact (rem_out w hD hI s hs).mono fun e' w' he => told_of ho he
theorem tru_told {w : World} {B d n : Nat} {M : MS} (h : DM w B d n M) (hn : n < 1000000) (s : ByteArray) (hs : s.size ≤ maxLen) (z : Int) :
    Calls Try.prog 27 #[.pointer (some ⟨d, 0, none⟩), .string s, .int .i64 z] w (Told w B d n (turned M fun M => M.tru s z)) := by
  refine h.turn hn (fun w => Calls Try.prog _ _ w (Told w B d n (turned M fun M => M.tru s z))) fun mb m S fs e hI h1 h2 hD ho => ?_
  rw [← e]
  exact (tru_out w hD hI s hs z h2).mono fun e' w' he => told_of ho he
theorem fall_told {w : World} {B d n : Nat} {M : MS} (h : DM w B d n M) (hn : n < 1000000) (t : Int) (ht : t ≤ 9223372036854775807) :
    Calls Try.prog 19 #[.pointer (some ⟨d, 0, none⟩), .int .i64 t] w fun e w' => e = .returned (.tuple #[]) ∧ DTurn w w' B d n { M with falls := max t 0 } := by
  refine h.turn hn (fun w => Calls Try.prog _ _ w fun e w' => e = .returned (.tuple #[]) ∧ DTurn w w' B d n { M with falls := max t 0 }) fun mb m S fs e hI h1 h2 hD ho => ?_
  rw [← e]
  refine (fall_out w hD hI t ht).mono ?_
  rintro e' w' ⟨rfl, hO⟩
  exact ⟨rfl, (ho w' _ _ hO).1⟩

theorem new_dm (w : World) (r : Int) : Calls Try.prog 12 #[.int .i64 r] w fun e w' => ∃ d, e = .returned (.pointer (some ⟨d, 0, none⟩)) ∧ DM w' w.heap.size d 0 ⟨[], min (max r 0) 1048576, false, -1⟩ ∧ Below w.heap.size w w' := by
  refine (new_any w r).mono ?_
  rintro e w' ⟨d, mb, rfl, hD, hB⟩
  refine ⟨d, rfl, ⟨mb, 0, _, [], rfl, ?_, Nat.le_refl _, Nat.le_refl _, hD⟩, hB⟩
  exact ⟨List.Pairwise.nil, rfl, (fun f hf => by cases hf), (fun f hf => by cases hf), Int.le_refl _, (by show (0 : Int) ≤ _; omega), (by show 0 ≤ min (max r 0) 1048576; omega), (by show min (max r 0) 1048576 ≤ _; omega), (by show 0 ≤ min (max r 0) 1048576; omega)⟩

theorem DM.keep {w w' : World} {B d n : Nat} {M : MS} (h : DM w B d n M) (hk : ∀ q, B ≤ q → q < w.heap.size → ((∃ cs T fz, w.heap[q]? = some (.cells cs T fz) ∧ (T = 63 ∨ T = 5)) ∨ ∃ es c, w.heap[q]? = some (.map es c)) → w'.heap[q]? = w.heap[q]?) : DM w' B d n M := by
  obtain ⟨mb, m, S, fs, e, hI, h1, h2, hD⟩ := h
  exact ⟨mb, m, S, fs, e, hI, h1, h2, hD.keep fun q hq => hk q (hD.foot_ge q hq) (hD.foot_lt q hq) (hD.foot_type q hq)⟩
theorem DM.below {w w' : World} {B d n : Nat} {M : MS} (h : DM w B d n M) (hb : Below w.heap.size w w') : DM w' B d n M := h.keep fun q _ hq _ => hb.block q hq
theorem DM.mono {w : World} {B d n n' : Nat} {M : MS} (h : DM w B d n M) (hn : n ≤ n') : DM w B d n' M := by
  obtain ⟨mb, m, S, fs, e, hI, h1, h2, hD⟩ := h
  exact ⟨mb, m, S, fs, e, hI, by omega, by omega, hD⟩

theorem DTurn.below {w w' : World} {B d n : Nat} {M : MS} (h : DTurn w w' B d n M) (hB : B ≤ w.heap.size) : Below B w w' := by
  obtain ⟨_, mb, fs, hf, hk⟩ := h
  exact hk.below (fun q hq => (hf q hq).1) hB

/-- what is of another kind than a disk's stays -/
theorem DTurn.other {w w' : World} {B d n : Nat} {M : MS} (h : DTurn w w' B d n M) {q : Nat} {cs : Array Value} {T : TypeId} {fz : Nat × Nat} (hq : w.heap[q]? = some (.cells cs T fz)) (h1 : T ≠ 63) (h2 : T ≠ 5) : w'.heap[q]? = w.heap[q]? := by
  obtain ⟨_, mb, fs, hf, hk⟩ := h
  have hlt : q < w.heap.size := (Array.getElem?_eq_some_iff.1 hq).1
  refine hk.2.2.2.2 q hlt fun hF => ?_
  rcases (hf q hF).2.2 with ⟨cs', T', fz', e, h3⟩ | ⟨es, c, e⟩
  · rw [hq] at e
    injection e with e
    injection e with _ e3 _
    subst e3
    rcases h3 with h3 | h3
    · exact h1 h3
    · exact h2 h3
  · rw [hq] at e
    injection e with e
    cases e

def MS.rd (M : MS) (k : L8) : ByteArray × Int := if M.down then (⟨#[]⟩, 8) else if isAt k M.files then (⟨(mfile k M.files).data.toArray⟩, 0) else (⟨#[]⟩, 5)

theorem read_dm {w : World} {B d n : Nat} {M : MS} (h : DM w B d n M) (s : ByteArray) (hs : s.size ≤ maxLen) :
    Calls Try.prog 16 #[.pointer (some ⟨d, 0, none⟩), .string s] w fun e w' => e = .returned (.tuple #[.string (M.rd (bl s)).1, .int .i64 (M.rd (bl s)).2]) ∧ Below w.heap.size w w' := by
  obtain ⟨mb, m, S, fs, rfl, hI, h1, h2, hD⟩ := h
  have e : rdR S fs (bl s) = (MS.of S (fl fs)).rd (bl s) := by
    unfold rdR MS.rd MS.of
    simp only
    rcases get_model hI (bl s) with ⟨g1, g2, _⟩ | ⟨p, g1, g2, g3, _⟩
    · rw [g1, g2]; rfl
    · rw [g1, g2, g3]; rfl
  rw [← e]
  exact read_any w hD s hs

theorem down_dm {w : World} {B d n : Nat} {M : MS} (h : DM w B d n M) : Calls Try.prog 21 #[.pointer (some ⟨d, 0, none⟩)] w fun e w' => e = .returned (.bool M.down) ∧ w = w' := by
  obtain ⟨mb, m, S, fs, rfl, hI, h1, h2, hD⟩ := h
  exact down_any w hD

theorem room_dm {w : World} {B d n : Nat} {M : MS} (h : DM w B d n M) : Calls Try.prog 22 #[.pointer (some ⟨d, 0, none⟩)] w fun e w' => e = .returned (.int .i64 M.room) ∧ ∃ q, w' = w.drewN q := by
  obtain ⟨mb, m, S, fs, rfl, hI, h1, h2, hD⟩ := h
  have h3 := hI.used
  have h4 := hI.room0
  have h5 := hI.room1
  have h6 := hI.fits
  have e : S.room - S.used = (MS.of S (fl fs)).room := by rw [h3]; rfl
  rw [← e]
  exact room_any w hD (by omega) (by omega) h4 (by omega)

/-- a row of the files' names, new -/
def FNames (w : World) (gs : List FileS) (e : Ending) (w' : World) : Prop :=
  ∃ v, e = .returned v ∧ w'.ownsRow w.heap.size 9 1 v gs.length (gs.map fun f => encStr f.name) ∧ Below w.heap.size w w'

theorem names_dm {w : World} {B d n : Nat} {M : MS} (h : DM w B d n M) (hn : n ≤ 1000000) : Calls Try.prog 23 #[.pointer (some ⟨d, 0, none⟩)] w (FNames w (if M.down then [] else M.files)) := by
  obtain ⟨mb, m, S, fs, rfl, hI, h1, h2, hD⟩ := h
  refine (Names_any w hD ((fl_rise _).2 hI.rise) (by omega)).mono ?_
  rintro e w' ⟨v, rfl, hr, hb⟩
  refine ⟨v, rfl, ?_, hb⟩
  show w'.ownsRow w.heap.size 9 1 v (if S.down then [] else fl fs).length ((if S.down then [] else fl fs).map fun f => encStr f.name)
  cases hd : S.down
  · rw [hd] at hr
    rw [if_neg (by simp)] at hr ⊢
    rw [fl_length]
    unfold fl
    rw [List.map_map]
    exact hr
  · rw [hd] at hr
    rw [if_pos rfl] at hr ⊢
    exact hr

/-- a loss of power -/
def MS.crash (M : MS) (more : Nat → Int) : MS := ⟨crashF more M.files, M.size, false, -1⟩

theorem crashF_at {more : Nat → Int} {gs : List FileS} (i : Nat) (h : i < (crashF more gs).length) (h2 : i < gs.length) : ((crashF more gs)[i]).name = (gs[i]).name := by simp [crashF]

theorem crashF_rise {more : Nat → Int} {gs : List FileS} (h : RiseF gs) : RiseF (crashF more gs) := by
  unfold RiseF at h ⊢
  rw [List.pairwise_iff_getElem] at h ⊢
  intro i j hi hj hij
  have hi' : i < gs.length := by rw [crashF_length] at hi; exact hi
  have hj' : j < gs.length := by rw [crashF_length] at hj; exact hj
  rw [crashF_at i hi hi', crashF_at j hj hj']
  exact h i j hi' hj' hij

theorem crash_dm {w : World} {B d n : Nat} {M : MS} (h : DM w B d n M) (hn : n ≤ 100000) (a : Option Addr) (len cap : Nat) (zs : List Int) (hrow : IsRow .i64 w a len cap zs) :
    Calls Try.prog 17 #[.pointer (some ⟨d, 0, none⟩), .slice a len cap] w fun e w' => ∃ d', e = .returned (.pointer (some ⟨d', 0, none⟩)) ∧ DM w' w.heap.size d' n (M.crash (moreAt zs len)) ∧ Below w.heap.size w w' := by
  obtain ⟨mb, m, S, fs, rfl, hI, h1, h2, hD⟩ := h
  refine (crash_disk w hD hI (by omega) a len cap zs hrow).mono ?_
  rintro e w' ⟨d', mb', n', cs, rfl, hn', hcs, hD', hb⟩
  have hfl : fl cs = crashF (moreAt zs len) (fl fs) := hcs
  have hlen : cs.length = fs.length := by rw [← fl_length, hfl, crashF_length, fl_length]
  rw [crashF_length, fl_length] at hn'
  have hsum : sumP cs ≤ sumF (fl fs) := by rw [fl_sum, hfl]; exact crash_sum _ hI.safe
  have h3 := hI.used
  have h6 := hI.fits
  refine ⟨d', rfl, ⟨mb', n', ⟨S.room, sumP cs, false, 0, false⟩, cs, ?_, ⟨?_, by show ((sumP cs : Nat) : Int) = _; rw [fl_sum], fun f hf => ?_, fun f hf => ?_, Int.le_refl _, (by show (0 : Int) ≤ _; omega), hI.room0, hI.room1, by show ((sumP cs : Nat) : Int) ≤ S.room; omega⟩, by omega, by omega, hD'⟩, hb⟩
  · rw [hfl]; rfl
  · rw [hfl]; exact crashF_rise hI.rise
  · rw [hfl] at hf
    unfold crashF at hf
    obtain ⟨i, hi, rfl⟩ := List.mem_mapIdx.1 hf
    have := crZ_le (more := moreAt zs len i) (hI.safe _ (List.getElem_mem hi))
    show crZ _ _ _ ≤ (List.take _ _).length
    rw [List.length_take]; omega
  · rw [hfl] at hf
    obtain ⟨g, hg, e⟩ := crashF_name hf
    rw [e]; exact hI.short g hg

end Go.Proofs.Ytkeopkhbcmeplaa
