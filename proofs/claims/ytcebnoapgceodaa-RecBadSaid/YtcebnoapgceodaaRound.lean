/-
  What is laid is what is read; what is read was laid; what is cut off is not read. Plain facts.
-/
import Derived.Test.YtcebnoapgceodaaLay
import Derived.Test.YtcebnoapgceodaaRead3
namespace Go.Proofs.Ytcebnoapgceodaa

theorem octN_first (m : Nat) (hm : m < 2 ^ 64) : (UInt8.ofNat (osz m)).toNat = osz m := by
  have := osz_le8 m hm
  simp
  omega

theorem numRead_laid (m M : Nat) (r : List UInt8) (hm : m < 2 ^ 64) : numRead (octN m ++ r) M = if m ≤ M then some (m, r) else none := by
  have h8 := osz_le8 m hm
  have h1 := octN_first m hm
  have htake : (be (osz m) m ++ r).take (osz m) = be (osz m) m := by
    rw [List.take_append_of_le_length (by rw [be_length]; omega), List.take_of_length_le (by rw [be_length]; omega)]
  have hdrop : (be (osz m) m ++ r).drop (osz m) = r := by
    have := List.drop_left (l₁ := be (osz m) m) (l₂ := r)
    rwa [be_length] at this
  have hlen : (be (osz m) m ++ r).length = osz m + r.length := by rw [List.length_append, be_length]
  have hhead : ¬ (be (osz m) m).head? = some 0 := by
    intro e
    rw [List.head?_eq_getElem?] at e
    have hp := (List.getElem?_eq_some_iff.1 e).1
    have := be_head m hm hp
    exact this (List.getElem?_eq_some_iff.1 e).2
  rw [show octN m ++ r = UInt8.ofNat (osz m) :: (be (osz m) m ++ r) from rfl, numRead_cons, h1, htake, hdrop, val_be_osz m hm, hlen]
  by_cases h : m ≤ M
  · rw [if_pos h, if_neg (not_or.2 ⟨by omega, not_or.2 ⟨by omega, not_or.2 ⟨hhead, by omega⟩⟩⟩)]
  · rw [if_neg h, if_pos (.inr (.inr (.inr (by omega))))]

theorem textRead_laid (s : ByteArray) (M : Nat) (r : List UInt8) (hs : s.size < 2 ^ 64) : textRead (octT s ++ r) M = if s.size ≤ M then some (s.data.toList, r) else none := by
  have hn := numRead_laid s.size M (s.data.toList ++ r) hs
  have hl : s.data.toList.length = s.size := by simp
  rw [← List.append_assoc] at hn
  by_cases h : s.size ≤ M
  · rw [if_pos h] at hn ⊢
    rw [show octT s ++ r = octN s.size ++ s.data.toList ++ r from rfl, textRead_some hn, if_neg (by rw [List.length_append]; omega)]
    rw [List.take_append_of_le_length (by omega), List.take_of_length_le (by omega)]
    have := List.drop_left (l₁ := s.data.toList) (l₂ := r)
    rw [hl] at this
    rw [this]
  · rw [if_neg h] at hn ⊢
    exact textRead_none hn

theorem flagRead_laid (x : Bool) (r : List UInt8) : flagRead (octF x ++ r) = some (x, r) := by cases x <;> rfl

theorem numRead_back {l r : List UInt8} {M v : Nat} (h : numRead l M = some (v, r)) : l = octN v ++ r ∧ v < 2 ^ 64 := by
  match l, h with
  | c :: s, h =>
    rw [numRead_cons] at h
    split at h
    · cases h
    · rename_i hn
      simp only [Option.some.injEq, Prod.mk.injEq] at h
      obtain ⟨rfl, rfl⟩ := h
      have h1 : ¬ s.length < c.toNat := fun x => hn (.inl x)
      have h2 : ¬ 8 < c.toNat := fun x => hn (.inr (.inl x))
      have h3 : ¬ (s.take c.toNat).head? = some 0 := fun x => hn (.inr (.inr (.inl x)))
      have hlen : (s.take c.toNat).length = c.toNat := by simp; omega
      have ho : osz (val (s.take c.toNat)) = c.toNat := by
        rw [osz_val _ (by omega) fun hp e => h3 (by rw [List.head?_eq_getElem?, List.getElem?_eq_getElem hp, e]), hlen]
      have hlt : val (s.take c.toNat) < 2 ^ 64 := by
        have a := val_lt (s.take c.toNat)
        have b : 256 ^ (s.take c.toNat).length ≤ 256 ^ 8 := Nat.pow_le_pow_right (by omega) (by omega)
        omega
      refine ⟨?_, hlt⟩
      have hb := be_val0 (s.take c.toNat)
      rw [hlen] at hb
      unfold octN
      rw [ho, hb, List.cons_append, List.take_append_drop]
      congr 1
      simp

theorem textRead_back {l t r : List UInt8} {M : Nat} (h : textRead l M = some (t, r)) : l = octN t.length ++ t ++ r ∧ t.length ≤ M := by
  unfold textRead at h
  split at h
  · cases h
  · rename_i n s hn
    split at h
    · cases h
    · rename_i hl
      simp only [Option.some.injEq, Prod.mk.injEq] at h
      obtain ⟨rfl, rfl⟩ := h
      have hb := numRead_back hn
      have hm := (numRead_len hn).2
      have e : (s.take n).length = n := by simp; omega
      rw [e]
      exact ⟨by rw [hb.1, List.append_assoc, List.take_append_drop], hm⟩

theorem flagRead_back {l r : List UInt8} {x : Bool} (h : flagRead l = some (x, r)) : l = octF x ++ r := by
  match l, h with
  | c :: s, h =>
    rw [show flagRead (c :: s) = if c = 0 then some (false, s) else if c = 1 then some (true, s) else none from rfl] at h
    split at h
    · rename_i h0
      simp only [Option.some.injEq, Prod.mk.injEq] at h
      obtain ⟨rfl, rfl⟩ := h
      rw [h0]; rfl
    · split at h
      · rename_i h1
        simp only [Option.some.injEq, Prod.mk.injEq] at h
        obtain ⟨rfl, rfl⟩ := h
        rw [h1]; rfl
      · cases h

theorem numRead_cut (m M k : Nat) (hm : m < 2 ^ 64) (hk : k < (octN m).length) : numRead ((octN m).take k) M = none := by
  have h1 := octN_first m hm
  match k, hk with
  | 0, _ => rfl
  | k + 1, hk =>
    rw [octN_length] at hk
    rw [show (octN m).take (k + 1) = UInt8.ofNat (osz m) :: (be (osz m) m).take k from rfl, numRead_cons, h1, if_pos]
    left
    simp [be_length]
    omega

theorem textRead_cut (s : ByteArray) (M k : Nat) (hs : s.size < 2 ^ 64) (hk : k < (octT s).length) : textRead ((octT s).take k) M = none := by
  by_cases h : k < (octN s.size).length
  · refine textRead_none ?_
    unfold octT
    rw [List.take_append_of_le_length (by omega)]
    exact numRead_cut s.size M k hs h
  · obtain ⟨j, rfl⟩ : ∃ j, k = (octN s.size).length + j := ⟨k - (octN s.size).length, by omega⟩
    have hj : j < s.size := by
      unfold octT at hk
      rw [List.length_append] at hk
      have : s.data.toList.length = s.size := by simp
      omega
    have hn := numRead_laid s.size M (s.data.toList.take j) hs
    unfold octT
    rw [List.take_length_add_append]
    by_cases h2 : s.size ≤ M
    · rw [if_pos h2] at hn
      rw [textRead_some hn, if_pos (by simp; omega)]
    · rw [if_neg h2] at hn
      exact textRead_none hn

end Go.Proofs.Ytcebnoapgceodaa
