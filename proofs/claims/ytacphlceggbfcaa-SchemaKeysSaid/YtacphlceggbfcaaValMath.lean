/-
  Values as bytes: what is laid is read, and what is read was laid. Plain facts.
-/
import Derived.Test.YtacphlceggbfcaaVal
namespace Go.Proofs.Ytacphlceggbfcaa

mutual
/-- are all numbers of a value such as fit? -/
def V.n64 : V → Prop
  | .mk _ _ n _ l f => Is64 n ∧ n64L l ∧ n64F f
def n64L : List V → Prop
  | [] => True
  | v :: l => v.n64 ∧ n64L l
def n64F : List (ByteArray × V) → Prop
  | [] => True
  | p :: l => V.n64 p.2 ∧ n64F l
end

theorem n64L_iff {l : List V} : n64L l ↔ ∀ v ∈ l, v.n64 := by
  induction l with
  | nil => simp [n64L]
  | cons v l ih => simp [n64L, ih]
theorem n64F_iff {l : List Fd} : n64F l ↔ ∀ p ∈ l, p.2.n64 := by
  induction l with
  | nil => simp [n64F]
  | cons v l ih => simp only [n64F, ih, List.mem_cons, forall_eq_or_imp]

theorem lay_pos (v : V) : 1 ≤ v.lay.length := by
  cases v; simp [V.lay]

theorem layL_ge (l : List V) : l.length ≤ (layL l).length := by
  induction l with
  | nil => simp
  | cons v l ih => have := lay_pos v; simp [layL]; omega

theorem octT_ge (s : ByteArray) : 1 + s.size ≤ (octT s).length := by
  have h : s.data.toList.length = s.size := by rw [Array.length_toList]; rfl
  unfold octT
  rw [List.length_append, octN_length, h]
  omega

theorem layF_ge (l : List Fd) : l.length ≤ (layF l).length := by
  induction l with
  | nil => simp
  | cons v l ih => have := lay_pos v.2; simp [layF]; omega

theorem layL_mem {l : List V} {v : V} (h : v ∈ l) : v.lay.length ≤ (layL l).length := by
  induction l with
  | nil => cases h
  | cons x l ih =>
    rw [layL, List.length_append]
    rcases List.mem_cons.1 h with rfl | h
    · omega
    · have := ih h; omega

theorem layF_mem {l : List Fd} {p : Fd} (h : p ∈ l) : p.2.lay.length + (octT p.1).length ≤ (layF l).length := by
  induction l with
  | nil => cases h
  | cons x l ih =>
    rw [layF, List.length_append, List.length_append]
    rcases List.mem_cons.1 h with rfl | h
    · omega
    · have := ih h; omega

theorem plain_iff {k : Int} {y : Bool} {n : Int} {t : ByteArray} {l : List V} {f : List Fd} : plainB (.mk k y n t l f) = true ↔
    (0 ≤ k ∧ k ≤ 5) ∧ (k = 1 ∨ y = false) ∧ (k = 2 ∨ n = 0) ∧ (k = 3 ∨ t = ⟨#[]⟩) ∧ (k = 4 ∨ l = []) ∧ (k = 5 ∨ f = []) := by
  rw [show plainB (.mk k y n t l f) = plainP k y n t l f from rfl, plainP]
  simp [and_assoc]

/-- a right value is one of six -/
theorem right_cases {v : V} {d : Int} (h : v.right d = true) : 1 ≤ d ∧
    (v = V.null ∨ (∃ y, v = V.ofBool y) ∨ (∃ n, v = V.ofInt n) ∨ (∃ t, v = V.ofText t) ∨ (∃ l, v = V.ofList l ∧ ∀ x ∈ l, x.right (d - 1) = true) ∨ (∃ f, v = V.ofMap f ∧ rightF none f (d - 1) = true)) := by
  cases v with
  | mk k y n t l f =>
    rw [V.right, Bool.and_eq_true, Bool.and_eq_true, Bool.and_eq_true, decide_eq_true_eq, plain_iff, rightL_iff] at h
    obtain ⟨⟨⟨hd, ⟨h0, h5⟩, hy, hn, ht, hl, hf⟩, hL⟩, hF⟩ := h
    refine ⟨hd, ?_⟩
    have hk : k = 0 ∨ k = 1 ∨ k = 2 ∨ k = 3 ∨ k = 4 ∨ k = 5 := by omega
    rcases hk with rfl | rfl | rfl | rfl | rfl | rfl
    · simp at hy hn ht hl hf; subst hy hn ht hl hf; exact .inl rfl
    · simp at hn ht hl hf; subst hn ht hl hf; exact .inr (.inl ⟨y, rfl⟩)
    · simp at hy ht hl hf; subst hy ht hl hf; exact .inr (.inr (.inl ⟨n, rfl⟩))
    · simp at hy hn hl hf; subst hy hn hl hf; exact .inr (.inr (.inr (.inl ⟨t, rfl⟩)))
    · simp at hy hn ht hf; subst hy hn ht hf; exact .inr (.inr (.inr (.inr (.inl ⟨l, rfl, hL⟩))))
    · simp at hy hn ht hl; subst hy hn ht hl; exact .inr (.inr (.inr (.inr (.inr ⟨f, rfl, hF⟩))))

theorem right_null {d : Int} (h : 1 ≤ d) : V.null.right d = true := by simp [V.null, V.right, plain_iff, rightL, rightF, h]
theorem right_ofBool (y : Bool) {d : Int} (h : 1 ≤ d) : (V.ofBool y).right d = true := by simp [V.ofBool, V.right, plain_iff, rightL, rightF, h]
theorem right_ofInt (n : Int) {d : Int} (h : 1 ≤ d) : (V.ofInt n).right d = true := by simp [V.ofInt, V.right, plain_iff, rightL, rightF, h]
theorem right_ofText (t : ByteArray) {d : Int} (h : 1 ≤ d) : (V.ofText t).right d = true := by simp [V.ofText, V.right, plain_iff, rightL, rightF, h]
theorem right_ofList (l : List V) {d : Int} (h : 1 ≤ d) (hl : ∀ x ∈ l, x.right (d - 1) = true) : (V.ofList l).right d = true := by
  rw [V.ofList, V.right, rightL_iff.2 hl]; simp [plain_iff, rightF, h]
theorem right_ofMap (f : List Fd) {d : Int} (h : 1 ≤ d) (hf : rightF none f (d - 1) = true) : (V.ofMap f).right d = true := by
  rw [V.ofMap, V.right, hf]; simp [plain_iff, rightL, h]

theorem lay_null : V.null.lay = [0] := rfl
theorem lay_ofBool (y : Bool) : (V.ofBool y).lay = 1 :: octF y := rfl
theorem lay_ofInt (n : Int) : (V.ofInt n).lay = 2 :: layI n := rfl
theorem lay_ofText (t : ByteArray) : (V.ofText t).lay = 3 :: octT t := rfl
theorem lay_ofList (l : List V) : (V.ofList l).lay = 4 :: (octN l.length ++ layL l) := rfl
theorem lay_ofMap (f : List Fd) : (V.ofMap f).lay = 5 :: (octN f.length ++ layF f) := rfl

theorem decV_null (d : Nat) (r : L8) : decV (d + 1) (0 :: r) = .inr (V.null, r) := rfl
theorem decV_bool (d : Nat) (r : L8) : decV (d + 1) (1 :: r) = (match flagRead r with | none => .inl 2 | some (y, r) => .inr (V.ofBool y, r)) := rfl
theorem decV_int (d : Nat) (r : L8) : decV (d + 1) (2 :: r) = (match numI r with | none => .inl 2 | some (n, r) => .inr (V.ofInt n, r)) := rfl
theorem decV_text (d : Nat) (r : L8) : decV (d + 1) (3 :: r) = (match textRead r 4096 with | none => .inl 2 | some (t, r) => .inr (V.ofText ⟨t.toArray⟩, r)) := rfl
theorem decV_list (d : Nat) (r : L8) : decV (d + 1) (4 :: r) = (match numRead r 9223372036854775807 with | none => .inl 2 | some (n, r) => match decList (decV d) n r with | .inl e => .inl e | .inr (vs, r) => .inr (V.ofList vs, r)) := rfl
theorem decV_map (d : Nat) (r : L8) : decV (d + 1) (5 :: r) = (match numRead r 9223372036854775807 with | none => .inl 2 | some (n, r) => match decFields (decV d) none n r with | .inl e => .inl e | .inr (vs, r) => .inr (V.ofMap vs, r)) := rfl
theorem decV_other (d : Nat) (c : UInt8) (r : L8) (h : 5 < c.toNat) : decV (d + 1) (c :: r) = .inl 2 := by
  have hn : ∀ x : UInt8, x.toNat ≤ 5 → c ≠ x := fun x hx e => by subst e; omega
  rw [decV, if_neg (hn 0 (by decide)), if_neg (hn 1 (by decide)), if_neg (hn 2 (by decide)), if_neg (hn 3 (by decide)), if_neg (hn 4 (by decide)), if_neg (hn 5 (by decide))]

theorem numI_laid (n : Int) (h : Is64 n) (r : L8) : numI (layI n ++ r) = some (n, r) := by
  have hf := fold_lt h
  unfold numI layI
  rw [List.append_assoc, numRead_laid _ _ _ (by omega), if_pos (by omega)]
  simp only
  rw [numRead_laid _ _ _ (by omega), if_pos (by omega)]
  simp only
  rw [show foldI n / 4294967296 * 4294967296 + foldI n % 4294967296 = foldI n by omega, unfold_fold]

theorem numI_back {l r : L8} {n : Int} (h : numI l = some (n, r)) : l = layI n ++ r ∧ Is64 n := by
  unfold numI at h
  split at h
  · cases h
  · rename_i u r1 h1
    split at h
    · cases h
    · rename_i o r2 h2
      injection h with h
      injection h with ha hb
      subst ha hb
      obtain ⟨e1, _⟩ := numRead_back h1
      obtain ⟨e2, _⟩ := numRead_back h2
      have b1 := (numRead_len h1).2
      have b2 := (numRead_len h2).2
      refine ⟨?_, unfold_is64 (by omega)⟩
      unfold layI
      rw [fold_unfold, show (u * 4294967296 + o) / 4294967296 = u by omega, show (u * 4294967296 + o) % 4294967296 = o by omega, e1, e2, List.append_assoc]

theorem decList_laid (f : L8 → Int ⊕ (V × L8)) : ∀ (l : List V) (r : L8), (∀ v ∈ l, ∀ r, f (v.lay ++ r) = .inr (v, r)) → decList f l.length (layL l ++ r) = .inr (l, r)
  | [], r, _ => rfl
  | v :: l, r, h => by
    rw [List.length_cons, decList, layL, List.append_assoc, h v (by simp)]
    simp only
    rw [decList_laid f l r (fun x hx => h x (by simp [hx]))]

theorem decFields_laid (f : L8 → Int ⊕ (V × L8)) : ∀ (l : List Fd) (m : Option ByteArray) (d : Int) (r : L8), rightF m l d = true → (∀ p ∈ l, p.1.size ≤ 4096) → (∀ p ∈ l, ∀ r, f (p.2.lay ++ r) = .inr (p.2, r)) → decFields f m l.length (layF l ++ r) = .inr (l, r)
  | [], _, _, r, _, _, _ => rfl
  | p :: l, m, d, r, hr, hs, h => by
    rw [rightF, Bool.and_eq_true, Bool.and_eq_true] at hr
    have hp := hs p (by simp)
    have hb : (⟨p.1.data.toList.toArray⟩ : ByteArray) = p.1 := by cases p.1; simp
    rw [List.length_cons, decFields, layF, List.append_assoc, textRead_laid _ _ _ (by omega), if_pos hp]
    simp only
    rw [hb, hr.1.1, if_neg (by decide), List.append_assoc, h p (by simp)]
    simp only
    rw [decFields_laid f l (some p.1) d r hr.2 (fun x hx => hs x (by simp [hx])) (fun x hx => h x (by simp [hx]))]

/-- what is laid is read -/
theorem decV_laid : ∀ (d : Nat) (v : V) (r : L8), v.right d = true → v.n64 → v.lay.length ≤ 4096 → decV d (v.lay ++ r) = .inr (v, r)
  | 0, v, r, h, _, _ => by
    obtain ⟨h1, _⟩ := right_cases h
    omega
  | d + 1, v, r, h, hn, hlen => by
    obtain ⟨_, rfl | ⟨y, rfl⟩ | ⟨n, rfl⟩ | ⟨t, rfl⟩ | ⟨l, rfl, hl⟩ | ⟨f, rfl, hf⟩⟩ := right_cases h
    · rfl
    · rw [lay_ofBool, List.cons_append, decV_bool, flagRead_laid]
    · rw [lay_ofInt, List.cons_append, decV_int, numI_laid n hn.1]
    · rw [lay_ofText] at hlen ⊢
      have := octT_ge t
      rw [List.length_cons] at hlen
      rw [List.cons_append, decV_text, textRead_laid _ _ _ (by omega), if_pos (by omega)]
    · rw [lay_ofList] at hlen ⊢
      rw [List.length_cons, List.length_append] at hlen
      have h1 := layL_ge l
      rw [List.cons_append, decV_list, List.append_assoc, numRead_laid _ _ _ (by omega), if_pos (by omega)]
      simp only
      rw [decList_laid (decV d) l r (fun x hx r => decV_laid d x r (by have := hl x hx; simpa using this) (n64L_iff.1 hn.2.1 x hx) (by have := layL_mem hx; omega))]
    · rw [lay_ofMap] at hlen ⊢
      rw [List.length_cons, List.length_append] at hlen
      have h1 := layF_ge f
      have hf' : rightF none f (d : Int) = true := by simpa using hf
      rw [List.cons_append, decV_map, List.append_assoc, numRead_laid _ _ _ (by omega), if_pos (by omega)]
      simp only
      rw [decFields_laid (decV d) f none d r hf' (fun p hp => by have := layF_mem hp; have := octT_ge p.1; omega) (fun p hp r => decV_laid d p.2 r (by
        obtain ⟨i, hi, rfl⟩ := List.getElem_of_mem hp
        exact ((rightF_iff.1 hf') i hi).1) (n64F_iff.1 hn.2.2 p hp) (by have := layF_mem hp; omega))]

theorem decList_back (f : L8 → Int ⊕ (V × L8)) (d : Int) (hf : ∀ l v r, f l = .inr (v, r) → l = v.lay ++ r ∧ v.right d = true ∧ v.n64) : ∀ (n : Nat) (l : L8) (vs : List V) (r : L8), decList f n l = .inr (vs, r) →
    l = layL vs ++ r ∧ vs.length = n ∧ (∀ v ∈ vs, v.right d = true) ∧ n64L vs
  | 0, l, vs, r, h => by
    injection h with h
    injection h with h1 h2
    subst h1 h2
    exact ⟨rfl, rfl, (fun v hv => by cases hv), trivial⟩
  | n + 1, l, vs, r, h => by
    rw [decList] at h
    split at h
    · cases h
    · rename_i v r1 h1
      split at h
      · cases h
      · rename_i vs' r' h2
        injection h with h
        injection h with ha hb
        subst ha hb
        obtain ⟨e1, e2, e3⟩ := hf _ _ _ h1
        obtain ⟨g1, g2, g3, g4⟩ := decList_back f d hf n r1 vs' r' h2
        refine ⟨by rw [e1, g1, layL, List.append_assoc], by simp [g2], fun x hx => ?_, e3, g4⟩
        rcases List.mem_cons.1 hx with rfl | hx
        · exact e2
        · exact g3 x hx

theorem decFields_back (f : L8 → Int ⊕ (V × L8)) (d : Int) (hf : ∀ l v r, f l = .inr (v, r) → l = v.lay ++ r ∧ v.right d = true ∧ v.n64) : ∀ (n : Nat) (m : Option ByteArray) (l : L8) (vs : List Fd) (r : L8), decFields f m n l = .inr (vs, r) →
    l = layF vs ++ r ∧ vs.length = n ∧ rightF m vs d = true ∧ n64F vs
  | 0, m, l, vs, r, h => by
    injection h with h
    injection h with h1 h2
    subst h1 h2
    exact ⟨rfl, rfl, by rw [rightF], trivial⟩
  | n + 1, m, l, vs, r, h => by
    rw [decFields] at h
    split at h
    · cases h
    · rename_i t r0 h0
      split at h
      · cases h
      · rename_i hlt
        split at h
        · cases h
        · rename_i v r1 h1
          split at h
          · cases h
          · rename_i vs' r' h2
            injection h with h
            injection h with ha hb
            subst ha hb
            obtain ⟨e1, e2, e3⟩ := hf _ _ _ h1
            obtain ⟨g1, g2, g3, g4⟩ := decFields_back f d hf n _ r1 vs' r' h2
            obtain ⟨k1, _⟩ := textRead_back h0
            refine ⟨?_, by simp [g2], ?_, e3, g4⟩
            · rw [k1, e1, g1, layF]
              have hs : (⟨t.toArray⟩ : ByteArray).size = t.length := rfl
              simp only [octT, hs, List.append_assoc]
            · rw [rightF, g3, e2]
              simpa using hlt

/-- what is read was laid -/
theorem decV_back : ∀ (d : Nat) (l : L8) (v : V) (r : L8), decV d l = .inr (v, r) → l = v.lay ++ r ∧ v.right d = true ∧ v.n64
  | 0, l, v, r, h => by cases h
  | d + 1, [], v, r, h => by cases h
  | d + 1, c :: l, v, r, h => by
    have hz : ∀ {t : ByteArray} {k : Int} {y : Bool}, V.n64 (.mk k y 0 t [] []) := fun {t k y} => ⟨by unfold Is64; omega, trivial, trivial⟩
    by_cases c0 : c = 0
    · subst c0
      rw [decV_null] at h
      injection h with h; injection h with h1 h2; subst h1 h2
      exact ⟨rfl, right_null (by omega), hz⟩
    by_cases c1 : c = 1
    · subst c1
      rw [decV_bool] at h
      split at h
      · cases h
      · rename_i y r' h1
        injection h with h; injection h with ha hb; subst ha hb
        refine ⟨?_, right_ofBool y (by omega), hz⟩
        rw [lay_ofBool, List.cons_append]
        congr 1
        exact flagRead_back h1
    by_cases c2 : c = 2
    · subst c2
      rw [decV_int] at h
      split at h
      · cases h
      · rename_i n r' h1
        injection h with h; injection h with ha hb; subst ha hb
        obtain ⟨e1, e2⟩ := numI_back h1
        exact ⟨by rw [lay_ofInt, List.cons_append, ← e1], right_ofInt n (by omega), e2, trivial, trivial⟩
    by_cases c3 : c = 3
    · subst c3
      rw [decV_text] at h
      split at h
      · cases h
      · rename_i t r' h1
        injection h with h; injection h with ha hb; subst ha hb
        obtain ⟨e1, _⟩ := textRead_back h1
        refine ⟨?_, right_ofText _ (by omega), hz⟩
        have hs : (⟨t.toArray⟩ : ByteArray).size = t.length := rfl
        rw [lay_ofText, List.cons_append, e1]
        simp only [octT, hs]
    by_cases c4 : c = 4
    · subst c4
      rw [decV_list] at h
      split at h
      · cases h
      · rename_i n r' h1
        split at h
        · cases h
        · rename_i vs r2 h2
          injection h with h; injection h with ha hb; subst ha hb
          obtain ⟨e1, _⟩ := numRead_back h1
          obtain ⟨g1, g2, g3, g4⟩ := decList_back (decV d) d (decV_back d) n _ _ _ h2
          refine ⟨?_, right_ofList vs (by omega) (fun x hx => by have := g3 x hx; simpa using this), ⟨by unfold Is64; omega, g4, trivial⟩⟩
          rw [lay_ofList, List.cons_append, e1, g1, g2, List.append_assoc]
    by_cases c5 : c = 5
    · subst c5
      rw [decV_map] at h
      split at h
      · cases h
      · rename_i n r' h1
        split at h
        · cases h
        · rename_i vs r2 h2
          injection h with h; injection h with ha hb; subst ha hb
          obtain ⟨e1, _⟩ := numRead_back h1
          obtain ⟨g1, g2, g3, g4⟩ := decFields_back (decV d) d (decV_back d) n none _ _ _ h2
          refine ⟨?_, right_ofMap vs (by omega) (by simpa using g3), ⟨by unfold Is64; omega, trivial, g4⟩⟩
          rw [lay_ofMap, List.cons_append, e1, g1, g2, List.append_assoc]
    · rw [decV, if_neg c0, if_neg c1, if_neg c2, if_neg c3, if_neg c4, if_neg c5] at h
      cases h

theorem decList_err (f : L8 → Int ⊕ (V × L8)) (hf : ∀ l e, f l = .inl e → e = 2 ∨ e = 3) : ∀ (n : Nat) (l : L8) (e : Int), decList f n l = .inl e → e = 2 ∨ e = 3
  | 0, l, e, h => by cases h
  | n + 1, l, e, h => by
    rw [decList] at h
    split at h
    · rename_i e' h1; injection h with h; subst h; exact hf _ _ h1
    · split at h
      · rename_i e' h2; injection h with h; subst h; exact decList_err f hf n _ _ h2
      · cases h

theorem decFields_err (f : L8 → Int ⊕ (V × L8)) (hf : ∀ l e, f l = .inl e → e = 2 ∨ e = 3) : ∀ (n : Nat) (m : Option ByteArray) (l : L8) (e : Int), decFields f m n l = .inl e → e = 2 ∨ e = 3
  | 0, m, l, e, h => by cases h
  | n + 1, m, l, e, h => by
    rw [decFields] at h
    split at h
    · injection h with h; exact .inl h.symm
    · split at h
      · injection h with h; exact .inl h.symm
      · split at h
        · rename_i e' h1; injection h with h; subst h; exact hf _ _ h1
        · split at h
          · rename_i e' h2; injection h with h; subst h; exact decFields_err f hf n _ _ _ h2
          · cases h

theorem decV_err : ∀ (d : Nat) (l : L8) (e : Int), decV d l = .inl e → e = 2 ∨ e = 3
  | 0, l, e, h => by injection h with h; exact .inr h.symm
  | d + 1, [], e, h => by injection h with h; exact .inl h.symm
  | d + 1, c :: l, e, h => by
    rw [decV] at h
    have ih := decV_err d
    split at h
    · cases h
    · split at h
      · split at h
        · injection h with h; exact .inl h.symm
        · cases h
      · split at h
        · split at h
          · injection h with h; exact .inl h.symm
          · cases h
        · split at h
          · split at h
            · injection h with h; exact .inl h.symm
            · cases h
          · split at h
            · split at h
              · injection h with h; exact .inl h.symm
              · split at h
                · rename_i h1; injection h with h; subst h; exact decList_err _ ih _ _ _ h1
                · cases h
            · split at h
              · split at h
                · injection h with h; exact .inl h.symm
                · split at h
                  · rename_i h1; injection h with h; subst h; exact decFields_err _ ih _ _ _ _ h1
                  · cases h
              · injection h with h; exact .inl h.symm

end Go.Proofs.Ytacphlceggbfcaa
