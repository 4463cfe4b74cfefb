/-
  frame.Get: the frame with which bytes begin, if they begin with one.
-/
import Derived.Test.YtdakodljpgnkdaaDoorFPut
import Derived.Test.YtdakodljpgnkdaaDoorShelf
namespace Go.Proofs.YtdakodljpgnkdaaDoor
open Go.RowKit

/-- bytes begin with the frame of a text -/
def Opens (l t : List UInt8) : Prop := t.length ≤ 262144 ∧ ∃ r, l = frm t ++ r

theorem Opens.of {p q r s : List UInt8} (hp : p.length = 4) (hq : q.length = 4) (hr : r.length = 4) (h1 : leN q = crc p) (h2 : leN p ≤ 262144) (h3 : leN p ≤ s.length) (h4 : leN r = crc (s.take (leN p))) :
    Opens (p ++ q ++ r ++ s) (s.take (leN p)) := by
  have hl : (s.take (leN p)).length = leN p := by simp; omega
  have e : ∀ x : List UInt8, x.length = 4 → le4 (leN x) = x := fun x hx => by
    match x, hx with
    | [a, b, c, d], _ => exact le4_leN a b c d
  refine ⟨by omega, s.drop (leN p), ?_⟩
  unfold frm
  rw [hl, e p hp, ← h1, e q hq, ← h4, e r hr]
  simp only [List.append_assoc, List.take_append_drop]

/-- what must be so where they do -/
theorem Opens.parts {p q r s t : List UInt8} (hp : p.length = 4) (hq : q.length = 4) (hr : r.length = 4) (h : Opens (p ++ q ++ r ++ s) t) :
    leN q = crc p ∧ leN p ≤ 262144 ∧ leN p ≤ s.length ∧ leN r = crc (s.take (leN p)) ∧ t = s.take (leN p) := by
  obtain ⟨ht, z, e⟩ := h
  unfold frm at e
  simp only [List.append_assoc] at e
  obtain ⟨e1, e⟩ := List.append_inj e (by rw [hp, le4_length])
  obtain ⟨e2, e⟩ := List.append_inj e (by rw [hq, le4_length])
  obtain ⟨e3, e4⟩ := List.append_inj e (by rw [hr, le4_length])
  clear e
  subst e1 e2 e3 e4
  have hn : leN (le4 t.length) = t.length := leN_le4 _ (by omega)
  rw [hn, leN_le4 _ (crc_lt _), leN_le4 _ (crc_lt _)]
  refine ⟨rfl, ht, by simp, by simp, by simp⟩

theorem Opens.one {l t u : List UInt8} (h : Opens l t) (k : Opens l u) : t = u := by
  obtain ⟨ht, z, e⟩ := h
  obtain ⟨hu, y, f⟩ := k
  rw [e] at f
  have g : ∀ x : List UInt8, frm x = le4 x.length ++ (le4 (crc (le4 x.length)) ++ (le4 (crc x) ++ x)) := fun x => by simp [frm]
  rw [g, g] at f
  simp only [List.append_assoc] at f
  obtain ⟨e1, f⟩ := List.append_inj f rfl
  obtain ⟨_, f⟩ := List.append_inj f rfl
  obtain ⟨_, f⟩ := List.append_inj f rfl
  have hl := congrArg leN e1
  rw [leN_le4 _ (by omega), leN_le4 _ (by omega)] at hl
  exact (List.append_inj f hl).1

theorem Opens.few {l t : List UInt8} (h : Opens l t) : 12 + t.length ≤ l.length := by
  obtain ⟨_, z, rfl⟩ := h
  rw [List.length_append, frm_length]
  omega

def GetPost (l : List UInt8) (w : World) (e : Ending) (w' : World) : Prop :=
  Below w.heap.size w w' ∧ (((∀ t, ¬ Opens l t) ∧ e = .returned (.tuple #[.string ⟨#[]⟩, .int .i64 0])) ∨ ∃ t, Opens l t ∧ e = .returned (.tuple #[.string ⟨t.toArray⟩, .int .i64 ((12 + t.length : Nat) : Int)]))

theorem get_few (b : ByteArray) (hb : b.size < 12) (w : World) :
    Calls Tryd.prog 13 #[.string b] w (GetPost b.data.toList w) := by
  have hb' : (b.size : Int) < 12 := by omega
  go_enter Tryd.func13, Tryd.ntmps13
  go_wp2
  refine bodyPost_ret (v := .tuple #[.string ⟨#[]⟩, .int .i64 0]) (by simp [results, Tryd.results13, go_sem]) rfl ⟨Below.refl _ _, .inl ⟨fun t h => ?_, rfl⟩⟩
  have := h.few
  have e : b.data.toList.length = b.size := by rw [Array.length_toList]; rfl
  omega

theorem clone_of (s : ByteArray) (hs : s.size ≤ 281474976710656) (w : World) :
    Calls Tryd.prog 18 #[.string s] w fun e w' => e = .returned (.string s) ∧ Below w.heap.size w w' := by
  go_enter Tryd.func18, Tryd.ntmps18
  go_wp2_with fail
  refine (Tryd.stringslite_Clone s w hs).mono ?_
  rintro e w1 ⟨rfl, hb⟩
  go_wp2
  go_ret
  exact ⟨rfl, hb⟩

set_option maxHeartbeats 4000000 in
theorem get_full (b : ByteArray) (hb : 12 ≤ b.size) (w : World) (hT : Tab w) :
    Calls Tryd.prog 13 #[.string b] w (GetPost b.data.toList w) := by
  have hb' : ¬ (b.size : Int) < 12 := by omega
  have h4 : (4 : Int) ≤ (b.size : Int) := by omega
  have h8 : (8 : Int) ≤ (b.size : Int) := by omega
  have h12 : (12 : Int) ≤ (b.size : Int) := by omega
  have h0 := hT.lt
  have sP : (b.extract 0 4).size = 4 := by simp [ByteArray.size_extract]; omega
  have sQ : (b.extract 4 8).size = 4 := by simp [ByteArray.size_extract]; omega
  have sR : (b.extract 8 12).size = 4 := by simp [ByteArray.size_extract]; omega
  have sS : (b.extract 12 b.size).size = b.size - 12 := by simp [ByteArray.size_extract]
  have lP : (b.extract 0 4).data.toList.length = 4 := by rw [Array.length_toList]; exact sP
  have lQ : (b.extract 4 8).data.toList.length = 4 := by rw [Array.length_toList]; exact sQ
  have lR : (b.extract 8 12).data.toList.length = 4 := by rw [Array.length_toList]; exact sR
  have hB : Hid (b.data.toList = (b.extract 0 4).data.toList ++ (b.extract 4 8).data.toList ++ (b.extract 8 12).data.toList ++ (b.extract 12 b.size).data.toList) := Lib.hid (by
    simp only [Lib.extract_data]
    have e : b.data.toList.length = b.size := by rw [Array.length_toList]; rfl
    generalize b.data.toList = l at e ⊢
    rw [← e, List.drop_zero]
    have hl : 12 ≤ l.length := by omega
    have e1 : (l.drop 12).take (l.length - 12) = l.drop 12 := List.take_of_length_le (by simp)
    have e2 : (l.drop 8).take (12 - 8) ++ l.drop 12 = l.drop 8 := by
      have := List.take_append_drop 4 (l.drop 8)
      rwa [List.drop_drop] at this
    have e3 : (l.drop 4).take (8 - 4) ++ l.drop 8 = l.drop 4 := by
      have := List.take_append_drop 4 (l.drop 4)
      rwa [List.drop_drop] at this
    rw [e1, List.append_assoc, e2, List.append_assoc, e3]
    exact (List.take_append_drop 4 l).symm)
  obtain ⟨P, eP⟩ : ∃ P, b.extract 0 4 = P := ⟨_, rfl⟩
  obtain ⟨Q, eQ⟩ : ∃ Q, b.extract 4 8 = Q := ⟨_, rfl⟩
  obtain ⟨R, eR⟩ : ∃ R, b.extract 8 12 = R := ⟨_, rfl⟩
  obtain ⟨S, eS⟩ : ∃ S, b.extract 12 b.size = S := ⟨_, rfl⟩
  rw [eP] at sP lP hB
  rw [eQ] at sQ lQ hB
  rw [eR] at sR lR hB
  rw [eS] at sS hB
  have hSL : S.data.toList.length = S.size := by rw [Array.length_toList]; rfl
  have bP : leN P.data.toList < 4294967296 := by have := leN_lt P.data.toList; rw [lP] at this; omega
  have bQ : leN Q.data.toList < 4294967296 := by have := leN_lt Q.data.toList; rw [lQ] at this; omega
  have bR : leN R.data.toList < 4294967296 := by have := leN_lt R.data.toList; rw [lR] at this; omega
  have nP := number_of P sP
  have nQ := number_of Q sQ
  have nR := number_of R sR
  have cP := sum_any P (by rw [sP]; unfold maxLen; omega)
  have OF := Lib.hid (@Opens.of P.data.toList Q.data.toList R.data.toList S.data.toList lP lQ lR)
  have OP := Lib.hid (fun t => @Opens.parts P.data.toList Q.data.toList R.data.toList S.data.toList t lP lQ lR)
  obtain ⟨x, hx⟩ : ∃ x, leN P.data.toList = x := ⟨_, rfl⟩
  obtain ⟨y, hy⟩ : ∃ y, leN Q.data.toList = y := ⟨_, rfl⟩
  obtain ⟨z, hz⟩ : ∃ z, leN R.data.toList = z := ⟨_, rfl⟩
  obtain ⟨c, hc⟩ : ∃ c, crc P.data.toList = c := ⟨_, rfl⟩
  rw [hx] at bP nP OF OP
  rw [hy] at bQ nQ OF OP
  rw [hz] at bR nR OF OP
  rw [hc] at cP OF OP
  have bc : c < 4294967296 := by rw [← hc]; exact crc_lt _
  have EP := Lib.hid eP
  have EQ := Lib.hid eQ
  have ER := Lib.hid eR
  have ES := Lib.hid eS
  have HSL := Lib.hid hSL
  clear hx hy hz hc eP eQ eR eS hSL lP lQ lR
  go_enter Tryd.func13, Tryd.ntmps13
  go_wp2
  go_region
  rw [EP.out, EQ.out, ER.out, ES.out]
  have hTd : Tab w.drew := hT
  go_wp2_with fail
  refine (nP _).mono ?_
  rintro e w1 ⟨rfl, hb1⟩
  replace hb1 : Below w.heap.size w w1 := (Below.refl _ _).drew.trans hb1
  go_wp2_with fail
  refine (nQ _).mono ?_
  rintro e w2 ⟨rfl, hb2⟩
  replace hb2 := hb1.trans (hb2.mono hb1.size)
  have hT2 := hT.below hb2 h0
  go_wp2_with fail
  refine (cP _ hT2).mono ?_
  rintro e w3 ⟨rfl, rfl⟩
  clear hb1 hTd
  by_cases h1 : y = c
  case neg =>
    have g1 : ((y : Int) != (c : Int)) = true := by rw [bne_iff_ne]; omega
    have g2 : ((y : Int) == (c : Int)) = false := by rw [beq_eq_false_iff_ne]; omega
    go_wp2
    refine bodyPost_ret (v := .tuple #[.string ⟨#[]⟩, .int .i64 0]) (by simp [results, Tryd.results13, go_sem]) rfl ⟨hb2, .inl ⟨fun t h => ?_, rfl⟩⟩
    rw [hB.out] at h
    have hp := OP.out t h
    exact h1 hp.1
  subst h1
  have g2 : ((y : Int) != (y : Int)) = false := by simp
  by_cases h2 : x ≤ 262144
  case neg =>
    have g1 : (262144 : Int) < (x : Int) := by omega
    go_wp2
    refine bodyPost_ret (v := .tuple #[.string ⟨#[]⟩, .int .i64 0]) (by simp [results, Tryd.results13, go_sem]) rfl ⟨hb2, .inl ⟨fun t h => ?_, rfl⟩⟩
    rw [hB.out] at h
    have hp := OP.out t h
    exact h2 hp.2.1
  have g1 : ¬ (262144 : Int) < (x : Int) := by omega
  by_cases h3 : x ≤ S.size
  case neg =>
    have g3 : (S.size : Int) < (x : Int) := by omega
    go_wp2
    refine bodyPost_ret (v := .tuple #[.string ⟨#[]⟩, .int .i64 0]) (by simp [results, Tryd.results13, go_sem]) rfl ⟨hb2, .inl ⟨fun t h => ?_, rfl⟩⟩
    rw [hB.out] at h
    have hp := OP.out t h
    rw [HSL.out] at hp; exact h3 hp.2.2.1
  have g3 : ¬ (S.size : Int) < (x : Int) := by omega
  have g4 : (x : Int) ≤ (S.size : Int) := by omega
  obtain ⟨T, eT⟩ : ∃ T, S.extract 0 x = T := ⟨_, rfl⟩
  have sT : T.size = x := by rw [← eT]; simp [ByteArray.size_extract]; omega
  have lT : Hid (T.data.toList = S.data.toList.take x) := Lib.hid (by rw [← eT, Lib.extract_data]; simp)
  have ET := Lib.hid eT
  have sTm : T.size ≤ 262144 := by omega
  have cT := sum_any T (by unfold maxLen; omega)
  obtain ⟨d, hd⟩ : ∃ d, crc T.data.toList = d := ⟨_, rfl⟩
  have HD : Hid (crc (S.data.toList.take x) = d) := Lib.hid (by rw [← lT.out]; exact hd)
  rw [hd] at cT
  have bd : d < 4294967296 := by rw [← hd]; exact crc_lt _
  clear eT hd
  have sTx := Lib.hid sT
  clear sT
  go_wp2_with fail
  rw [ET.out]
  refine (nR _).mono ?_
  rintro e w3 ⟨rfl, hb3⟩
  replace hb3 := hb2.trans (hb3.mono hb2.size)
  have hT3 := hT.below hb3 h0
  clear hb2 hT2
  go_wp2_with fail
  refine (cT _ hT3).mono ?_
  rintro e w4 ⟨rfl, rfl⟩
  by_cases h5 : z = d
  case neg =>
    have g5 : ((z : Int) != (d : Int)) = true := by rw [bne_iff_ne]; omega
    have g6 : ((z : Int) == (d : Int)) = false := by rw [beq_eq_false_iff_ne]; omega
    go_wp2
    refine bodyPost_ret (v := .tuple #[.string ⟨#[]⟩, .int .i64 0]) (by simp [results, Tryd.results13, go_sem]) rfl ⟨hb3, .inl ⟨fun t h => ?_, rfl⟩⟩
    rw [hB.out] at h
    have hp := OP.out t h
    rw [HD.out] at hp; exact h5 hp.2.2.2.1
  subst h5
  have g5 : ((z : Int) != (z : Int)) = false := by simp
  go_wp2_with fail
  refine (clone_of T (by omega) _).mono ?_
  rintro e w4 ⟨rfl, hb4⟩
  replace hb4 := hb3.trans (hb4.mono hb3.size)
  clear hb3 hT3
  go_wp2
  refine bodyPost_ret (v := .tuple #[.string T, .int .i64 (12 + (T.size : Int))]) (by simp [results, Tryd.results13, go_sem]) rfl ⟨hb4, .inr ⟨T.data.toList, ?_, ?_⟩⟩
  · rw [hB.out, lT.out]
    exact OF.out (by first | rfl | trivial) h2 (by rw [HSL.out]; exact h3) HD.out.symm
  · rw [Array.length_toList]
    rfl

theorem get_any (b : ByteArray) (w : World) (hT : Tab w) :
    Calls Tryd.prog 13 #[.string b] w (GetPost b.data.toList w) := by
  by_cases h : b.size < 12
  · exact get_few b h w
  · exact get_full b (by omega) w hT

end Go.Proofs.YtdakodljpgnkdaaDoor
