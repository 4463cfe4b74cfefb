/-
  Bits turned in a row of frames: what of it is still read. Plain facts.
-/
import Derived.Test.YtdakodljpgnkdaaDoorFAll
namespace Go.Proofs.YtdakodljpgnkdaaDoor

theorem pow256' (k : Nat) : 256 ^ k = 2 ^ (8 * k) := by rw [Nat.pow_mul]

theorem leN_lt' (l : List UInt8) : leN l < 2 ^ (8 * l.length) := by rw [← pow256']; exact leN_lt l

theorem leN_append : ∀ (a b : List UInt8), leN (a ++ b) = leN b * 256 ^ a.length + leN a
  | [], b => by simp [leN]
  | x :: a, b => by
    simp only [List.cons_append, leN, List.length_cons]
    rw [leN_append a b, Nat.pow_succ, Nat.add_mul, Nat.mul_assoc, Nat.add_assoc]

theorem leN_append' (a b : List UInt8) : leN (a ++ b) = (leN b * 2 ^ (8 * a.length)) ^^^ leN a := by
  rw [leN_append, pow256', join_low _ _ _ (leN_lt' a)]

theorem mul_pow_xor (a b k : Nat) : (a ^^^ b) * 2 ^ k = a * 2 ^ k ^^^ b * 2 ^ k := by
  rw [← Nat.shiftLeft_eq, ← Nat.shiftLeft_eq, ← Nat.shiftLeft_eq, Nat.shiftLeft_xor_distrib]

theorem leN_set : ∀ (l : List UInt8) (k : Nat) (c : UInt8) (h : k < l.length), leN (l.set k (l[k] ^^^ c)) = leN l ^^^ (c.toNat * 2 ^ (8 * k))
  | x :: l, 0, c, _ => by
    simp only [List.set_cons_zero, List.getElem_cons_zero, Nat.mul_zero, Nat.pow_zero, Nat.mul_one]
    rw [leN_cons, leN_cons, UInt8.toNat_xor, Nat.xor_assoc]
  | x :: l, k + 1, c, h => by
    have h' : k < l.length := by simpa using h
    simp only [List.set_cons_succ, List.getElem_cons_succ]
    have e : c.toNat * 2 ^ (8 * (k + 1)) = c.toNat * 2 ^ (8 * k) * 2 ^ 8 := by rw [Nat.mul_add, Nat.pow_add, Nat.mul_assoc]
    rw [leN_cons, leN_cons, leN_set l k c h', e, show leN l * 256 = leN l * 2 ^ 8 from rfl, show (leN l ^^^ c.toNat * 2 ^ (8 * k)) * 256 = (leN l ^^^ c.toNat * 2 ^ (8 * k)) * 2 ^ 8 from rfl, mul_pow_xor, Nat.xor_assoc, Nat.xor_comm _ x.toNat, ← Nat.xor_assoc]

theorem two_parts {x a y b : List UInt8} (h : x.length = a.length) (D : Nat) (hD : leN (x ++ y) ^^^ leN (a ++ b) = D) :
    leN x ^^^ leN a = D % 2 ^ (8 * a.length) ∧ leN y ^^^ leN b = D / 2 ^ (8 * a.length) := by
  have hx := leN_lt' x
  have ha := leN_lt' a
  rw [h] at hx
  have hv : leN x ^^^ leN a < 2 ^ (8 * a.length) := Nat.xor_lt_two_pow hx ha
  have e : D = (leN y ^^^ leN b) * 2 ^ (8 * a.length) + (leN x ^^^ leN a) := by
    rw [join_low _ _ _ hv, mul_pow_xor, ← hD, leN_append', leN_append', h, xor_swap]
  rw [e]
  have hp := Nat.two_pow_pos (8 * a.length)
  constructor
  · rw [Nat.add_comm, Nat.add_mul_mod_self_right, Nat.mod_eq_of_lt hv]
  · rw [Nat.add_comm, Nat.add_mul_div_right _ _ hp, Nat.div_eq_of_lt hv, Nat.zero_add]

/-- Where bits are turned in the midst, what stands ahead and behind is as it was. -/
theorem three_parts {a c z L : List UInt8} (m P : Nat) (hl : L.length = (a ++ c ++ z).length) (hD : leN L ^^^ leN (a ++ c ++ z) = m * 2 ^ P) (hP : 8 * a.length ≤ P) (hm : m * 2 ^ P < 2 ^ (8 * (a.length + c.length))) :
    ∃ c', L = a ++ c' ++ z ∧ c'.length = c.length ∧ leN c' ^^^ leN c = m * 2 ^ (P - 8 * a.length) := by
  simp only [List.length_append] at hl
  have e1 := List.take_append_drop a.length L
  have e2 := List.take_append_drop c.length (L.drop a.length)
  have l1 : (L.take a.length).length = a.length := by rw [List.length_take]; omega
  have l2 : ((L.drop a.length).take c.length).length = c.length := by rw [List.length_take, List.length_drop]; omega
  have l3 : ((L.drop a.length).drop c.length).length = z.length := by rw [List.length_drop, List.length_drop]; omega
  obtain ⟨d, hd⟩ : ∃ d, P = 8 * a.length + d := ⟨P - 8 * a.length, by omega⟩
  have eD : m * 2 ^ P = m * 2 ^ d * 2 ^ (8 * a.length) := by rw [hd, Nat.pow_add, Nat.mul_comm (2 ^ (8 * a.length)), Nat.mul_assoc]
  have hp := Nat.two_pow_pos (8 * a.length)
  rw [List.append_assoc] at hD
  have p1 := two_parts (x := L.take a.length) (y := L.drop a.length) l1 (m * 2 ^ P) (by rw [e1]; exact hD)
  rw [eD, Nat.mul_mod_left, Nat.mul_div_cancel _ hp] at p1
  obtain ⟨q1, q2⟩ := p1
  have p2 := two_parts (x := (L.drop a.length).take c.length) (y := (L.drop a.length).drop c.length) l2 (m * 2 ^ d) (by rw [e2]; exact q2)
  have hlt : m * 2 ^ d < 2 ^ (8 * c.length) := by
    rw [eD, Nat.mul_add, Nat.pow_add, Nat.mul_comm (2 ^ (8 * a.length))] at hm
    exact Nat.lt_of_mul_lt_mul_right hm
  rw [Nat.mod_eq_of_lt hlt, Nat.div_eq_of_lt hlt] at p2
  obtain ⟨q3, q4⟩ := p2
  refine ⟨(L.drop a.length).take c.length, ?_, l2, ?_⟩
  · have f1 := leN_inj l1 (xor_zero_eq q1)
    have f2 := leN_inj l3 (xor_zero_eq q4)
    conv => lhs; rw [← e1, ← e2, f1, f2]
    rw [List.append_assoc]
  · rw [q3, hd, Nat.add_sub_cancel_left]

theorem bit_more (B P i : Nat) : (B % 2 ^ (i + 1)) * 2 ^ P = ((B % 2 ^ i) * 2 ^ P) ^^^ ((B / 2 ^ i % 2) * 2 ^ (P + i)) := by
  have e : B % 2 ^ (i + 1) = (B / 2 ^ i % 2 * 2 ^ i) ^^^ (B % 2 ^ i) := by
    rw [← join_low i _ _ (Nat.mod_lt _ (Nat.two_pow_pos i)), Nat.pow_succ, Nat.mod_mul, Nat.add_comm, Nat.mul_comm]
  rw [e, mul_pow_xor, Nat.xor_comm, Nat.pow_add, Nat.mul_assoc, Nat.mul_comm (2 ^ i) (2 ^ P)]

/-- a frame whose text was turned is none -/
theorem no_text (t t' z : List UInt8) (hl : t'.length = t.length) (ht : t.length ≤ 262144) (hne : crc t' ≠ crc t) (u : List UInt8) :
    ¬ Opens (le4 t.length ++ le4 (crc (le4 t.length)) ++ le4 (crc t) ++ (t' ++ z)) u := by
  intro h
  have hp := Opens.parts (le4_length _) (le4_length _) (le4_length _) h
  have h4 := hp.2.2.2.1
  rw [leN_le4 _ (crc_lt _), leN_le4 _ (by omega), List.take_left' hl] at h4
  exact hne h4.symm

/-- a frame whose length was turned is none -/
theorem no_len (t c z : List UInt8) (hl : c.length = 4) (hne : crc c ≠ crc (le4 t.length)) (u : List UInt8) :
    ¬ Opens (c ++ le4 (crc (le4 t.length)) ++ le4 (crc t) ++ (t ++ z)) u := by
  intro h
  have hp := Opens.parts hl (le4_length _) (le4_length _) h
  have h1 := hp.1
  rw [leN_le4 _ (crc_lt _)] at h1
  exact hne h1.symm

theorem flat_at (ps : List ByteArray) (W : Nat) (h : W < ps.length) : flat ps = flat (ps.take W) ++ (frm ps[W].data.toList ++ flat (ps.drop (W + 1))) := by
  conv => lhs; rw [← List.take_append_drop W ps, flat_append, List.drop_eq_getElem_cons h]
  rfl

theorem exp_lt {m P X : Nat} (h0 : m ≠ 0) (h : m * 2 ^ P < 2 ^ X) : P < X := by
  have h1 : 2 ^ P ≤ m * 2 ^ P := Nat.le_mul_of_pos_left _ (by omega)
  exact (Nat.pow_lt_pow_iff_right (by omega)).1 (Nat.lt_of_le_of_lt h1 h)

/-- Of frames one behind the other, in the W-th of which bits within 32 side by side were turned in its text, those ahead are told. -/
theorem turned_text (ps : List ByteArray) (W : Nat) (h : W < ps.length) (hs : small ps) (L : List UInt8) (m P : Nat) (hl : L.length = (flat ps).length) (hD : leN L ^^^ leN (flat ps) = m * 2 ^ P)
    (h0 : m ≠ 0) (hm : m < 4294967296) (hP : 8 * ((flat (ps.take W)).length + 12) ≤ P) (hm2 : m * 2 ^ P < 2 ^ (8 * ((flat (ps.take W)).length + 12 + ps[W].size))) (ts : List ByteArray) (hf : Frames L ts) : ts = ps.take W := by
  have ht : ps[W].data.toList.length ≤ 262144 := by rw [bytes_len]; exact hs _ (List.getElem_mem h)
  have hb := bytes_len ps[W]
  have e := flat_at ps W h
  generalize ps[W].data.toList = t at ht hb e
  rw [← hb] at hm2
  have e2 : flat ps = (flat (ps.take W) ++ (le4 t.length ++ le4 (crc (le4 t.length)) ++ le4 (crc t))) ++ t ++ flat (ps.drop (W + 1)) := by
    rw [e]; unfold frm; simp only [List.append_assoc]
  have la : (flat (ps.take W) ++ (le4 t.length ++ le4 (crc (le4 t.length)) ++ le4 (crc t))).length = (flat (ps.take W)).length + 12 := by
    simp only [List.length_append, le4_length]
  rw [e2] at hl hD
  obtain ⟨c', e3, hl3, hd3⟩ := three_parts m P hl hD (by rw [la]; exact hP) (by rw [la]; exact hm2)
  rw [la] at hd3
  have hPX := exp_lt h0 hm2
  have hne := crc_ne hl3 m _ hd3 (by omega) h0 hm
  refine hf.of (fun x hx => hs x (List.mem_of_mem_take hx)) (no_text t c' (flat (ps.drop (W + 1))) hl3 ht hne) ?_
  rw [e3]
  simp only [List.append_assoc]

/-- .. in its length .. -/
theorem turned_len (ps : List ByteArray) (W : Nat) (h : W < ps.length) (hs : small ps) (L : List UInt8) (m P : Nat) (hl : L.length = (flat ps).length) (hD : leN L ^^^ leN (flat ps) = m * 2 ^ P)
    (h0 : m ≠ 0) (hm : m < 4294967296) (hP : 8 * (flat (ps.take W)).length ≤ P) (hm2 : m * 2 ^ P < 2 ^ (8 * ((flat (ps.take W)).length + 4))) (ts : List ByteArray) (hf : Frames L ts) : ts = ps.take W := by
  have e := flat_at ps W h
  generalize ps[W].data.toList = t at e
  have e2 : flat ps = flat (ps.take W) ++ le4 t.length ++ (le4 (crc (le4 t.length)) ++ (le4 (crc t) ++ (t ++ flat (ps.drop (W + 1))))) := by
    rw [e]; unfold frm; simp only [List.append_assoc]
  rw [e2] at hl hD
  obtain ⟨c', e3, hl3, hd3⟩ := three_parts m P hl hD hP (by rw [le4_length]; exact hm2)
  rw [le4_length] at hl3
  have hPX := exp_lt h0 hm2
  have hne := crc_ne (hl3.trans (le4_length _).symm) m _ hd3 (by omega) h0 hm
  refine hf.of (fun x hx => hs x (List.mem_of_mem_take hx)) (no_len t c' (flat (ps.drop (W + 1))) hl3 hne) ?_
  rw [e3]
  simp only [List.append_assoc]

end Go.Proofs.YtdakodljpgnkdaaDoor
