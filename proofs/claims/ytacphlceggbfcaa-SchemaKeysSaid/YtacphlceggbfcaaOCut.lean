/-
  ord.Cut and ord.Parts: the first text of a key, and all of them.
-/
import Derived.Test.YtacphlceggbfcaaSRow
import Derived.Lib.IndexLaws
import Derived.Deep.QuietTactic
import Derived.BigQuiet
import Derived.Outline
namespace Go.Proofs.Ytacphlceggbfcaa
open Go.RowKit Go.Proofs.Ytacphlceggbfcaa.rowB Go.Proofs.Ytacphlceggbfcaa.sRow

theorem cutO_plain : ∀ (x y : L8), (∀ c ∈ x, c ≠ 0) → cutO (x ++ y) = (cutO y).map fun p => (x ++ p.1, p.2)
  | [], y, _ => by rw [List.nil_append]; cases cutO y <;> rfl
  | [c], [], _ => by simp [cutO]
  | [c], d :: y, h => by
    have hc := h c (by simp)
    rw [List.singleton_append, cutO, if_neg hc]
    rfl
  | c :: d :: x, y, h => by
    have hc := h c (by simp)
    have ih := cutO_plain (d :: x) y (fun e he => h e (by simp at he ⊢; exact .inr he))
    rw [List.cons_append, List.cons_append, cutO, if_neg hc]
    rw [List.cons_append] at ih
    rw [ih]
    cases cutO y <;> rfl

theorem cutO_end (x : L8) (h : ∀ c ∈ x, c ≠ 0) : cutO (x ++ [0]) = none := by rw [cutO_plain x [0] h]; rfl
theorem cutO_no (x : L8) (h : ∀ c ∈ x, c ≠ 0) : cutO x = none := by have := cutO_plain x [] h; rwa [List.append_nil] at this
theorem cutO_last (x r : L8) (h : ∀ c ∈ x, c ≠ 0) : cutO (x ++ 0 :: 1 :: r) = some (x, r) := by rw [cutO_plain x _ h]; simp [cutO]
theorem cutO_stuffed (x r : L8) (h : ∀ c ∈ x, c ≠ 0) : cutO (x ++ 0 :: 255 :: r) = (cutO r).map fun p => (x ++ 0 :: p.1, p.2) := by
  rw [cutO_plain x _ h]
  rw [cutO]
  cases cutO r <;> simp
theorem cutO_other (x r : L8) (d : UInt8) (h : ∀ c ∈ x, c ≠ 0) (h1 : d ≠ 1) (h2 : d ≠ 255) : cutO (x ++ 0 :: d :: r) = none := by
  rw [cutO_plain x _ h]; simp [cutO, h1, h2]

theorem split_at (l : L8) (i : Nat) (h : i < l.length) : l = l.take i ++ l[i] :: l.drop (i + 1) := by
  rw [← List.drop_eq_getElem_cons, List.take_append_drop]

def CutPost (k : L8) (w : World) (e : Ending) (w' : World) : Prop :=
  Below w.heap.size w w' ∧ ((cutO k = none ∧ e = .returned (.tuple #[.string ⟨#[]⟩, .string ⟨#[]⟩, .bool false])) ∨ ∃ s r, cutO k = some (s, r) ∧ e = .returned (.tuple #[.string ⟨s.toArray⟩, .string ⟨r.toArray⟩, .bool true]))

theorem idx_none {l : L8} (h : Lib.indexByte l 0 < 0) : ∀ c ∈ l, c ≠ 0 := by
  have hge := Lib.indexByte_ge l 0
  have hn := Lib.indexByte_none (l := l) (c := 0) (by omega)
  intro c hc e
  obtain ⟨i, hi, rfl⟩ := List.getElem_of_mem hc
  exact hn i (by rw [List.getElem?_eq_getElem hi, e])

theorem idx_some {l : L8} {i : Nat} (h : Lib.indexByte l 0 = i) : ∃ hi : i < l.length, l[i] = 0 ∧ ∀ c ∈ l.take i, c ≠ 0 := by
  obtain ⟨h1, h2⟩ := Lib.indexByte_some h
  have hi := (List.getElem?_eq_some_iff.1 h1).1
  refine ⟨hi, (List.getElem?_eq_some_iff.1 h1).2, fun c hc e => ?_⟩
  obtain ⟨j, hj, rfl⟩ := List.getElem_of_mem hc
  rw [List.length_take] at hj
  refine h2 j (by omega) ?_
  rw [List.getElem?_eq_getElem (by omega)]
  rw [List.getElem_take] at e
  rw [e]

theorem idxc_any (s : ByteArray) (w : World) : Calls Try.prog 92 #[.string s, .int .u8 0] w fun e w' => e = .returned (.int .i64 (Lib.indexByte s.data.toList 0)) ∧ w = w' :=
  (Try.strings_IndexByte s 0 w).mono fun _ _ ⟨a, b⟩ => ⟨a, b.symm⟩

set_option maxHeartbeats 2000000 in
theorem cut_any (key : ByteArray) (hk : key.size ≤ 1000000) (w : World) :
    Calls Try.prog 69 #[.string key] w (CutPost key.data.toList w) := by
  have CV := Lib.hid (fun (w' : World) (v : Value) (l : List UInt8) (h : Bs 5 w.heap.size w' v l) => conv_bs (P := Try.prog) 5 w.heap.size w' 44 9 Try.underlying44 Try.underlying5 Try.underlying9 v l h)
  go_enter Try.func69, Try.ntmps69
  go_wp2
  go_loopw [0, 5] (fun s v wr => ∃ (key' : ByteArray) (t : L8), s = .string key' ∧ t.length + key'.size ≤ key.size ∧ Bs 5 w.heap.size wr v t ∧ Below w.heap.size w wr ∧ cutO key.data.toList = (cutO key'.data.toList).map (fun p => (t ++ p.1, p.2))) (fun s _ _ => match s with | .string b => b.size | _ => 0)
  case atStart => exact ⟨key, [], rfl, by simp, Bs.nil _ _ _, Below.refl _ _, by cases cutO key.data.toList <;> rfl⟩
  case round =>
    obtain ⟨k, t, rfl, hlen, hown, hb, hcut⟩ := hrel
    have hz := hb.size
    have HC := Lib.hid hcut
    clear hcut
    have hkl : k.data.toList.length = k.size := by rw [Array.length_toList]; rfl
    have hix := idxc_any k wr
    rcases Int.lt_or_le (Lib.indexByte k.data.toList 0) 0 with hneg | hpos
    · have hcn := cutO_no _ (idx_none hneg)
      have HN := Lib.hid hcn
      generalize Lib.indexByte k.data.toList 0 = i at hix hneg
      clear hcn hkl
      go_wp2_with fail
      refine hix.mono ?_
      rintro e w2 ⟨rfl, rfl⟩
      go_wp2
      refine bodyPost_ret (v := .tuple #[.string ⟨#[]⟩, .string ⟨#[]⟩, .bool false]) (by simp [results, Try.results69, go_sem]) rfl ⟨hb, .inl ⟨?_, rfl⟩⟩
      rw [HC.out, HN.out]; rfl
    · obtain ⟨i, hi⟩ : ∃ i : Nat, Lib.indexByte k.data.toList 0 = i := ⟨(Lib.indexByte k.data.toList 0).toNat, by omega⟩
      obtain ⟨hil, hi0, hpl⟩ := idx_some hi
      rw [hi] at hix
      clear hpos hi
      have hsp := split_at k.data.toList i hil
      rw [hi0] at hsp
      have hii : (0 : Int) ≤ (i : Int) := by omega
      have hin : ¬ (i : Int) < 0 := by omega
      have hib : (i : Int) ≤ 1000000 := by omega
      by_cases hend : i + 1 = k.size
      · have hcn : cutO k.data.toList = none := by
          rw [hsp, List.drop_of_length_le (by omega)]; exact cutO_end _ hpl
        have HN := Lib.hid hcn
        have he : (((i : Int) + 1) == (k.size : Int)) = true := by rw [beq_iff_eq]; omega
        clear hcn hkl hsp hpl hi0 hend
        go_wp2_with fail
        refine hix.mono ?_
        rintro e w2 ⟨rfl, rfl⟩
        go_wp2
        refine bodyPost_ret (v := .tuple #[.string ⟨#[]⟩, .string ⟨#[]⟩, .bool false]) (by simp [results, Try.results69, go_sem]) rfl ⟨hb, .inl ⟨?_, rfl⟩⟩
        rw [HC.out, HN.out]; rfl
      · have he : (((i : Int) + 1) == (k.size : Int)) = false := by rw [beq_eq_false_iff_ne]; omega
        have hlt1 : (i : Int) + 1 < (k.size : Int) := by omega
        have hle2 : (i : Int) + 2 ≤ (k.size : Int) := by omega
        have hi1 : i + 1 < k.size := by omega
        have hsp2 : k.data.toList = k.data.toList.take i ++ 0 :: (k[i + 1]'hi1) :: k.data.toList.drop (i + 2) := by
          rw [List.drop_eq_getElem_cons (i := i + 1) (by omega)] at hsp
          exact hsp
        have hR : (k.extract (i + 2) k.size).data.toList = k.data.toList.drop (i + 2) := by
          rw [Lib.extract_data, List.take_of_length_le (by simp)]
        have hX : (k.extract 0 i).data.toList = k.data.toList.take i := by rw [Lib.extract_data]; simp
        have hX1 : (k.extract 0 (i + 1)).data.toList = k.data.toList.take i ++ [0] := by
          rw [Lib.extract_data, List.drop_zero, Nat.sub_zero, List.take_succ_eq_append_getElem hil, hi0]
        have hXs : (k.extract 0 i).size = i := by simp [ByteArray.size_extract]; omega
        have hXs1 : (k.extract 0 (i + 1)).size = i + 1 := by simp [ByteArray.size_extract]; omega
        have hRs : (k.extract (i + 2) k.size).size = k.size - (i + 2) := by simp [ByteArray.size_extract]
        have hxl : t.length + (k.extract 0 i).size ≤ 140737488355328 := by omega
        have hxl1 : t.length + (k.extract 0 (i + 1)).size ≤ 140737488355328 := by omega
        have HR := Lib.hid hR
        have HX := Lib.hid hX
        have HX1 := Lib.hid hX1
        have HRS := Lib.hid hRs
        have HXS1 := Lib.hid hXs1
        have HSP := Lib.hid hsp2
        have HPL := Lib.hid hpl
        have hdb := (k[i + 1]'hi1).toNat_lt
        clear hR hX hX1 hRs hXs hXs1 hsp hsp2 hpl hkl hi0 hil hend
        by_cases h1 : k[i + 1]'hi1 = 1
        · have hm : ∀ h, ((k[i + 1]'h).toNat : Int) = 1 := fun _ => by rw [h1]; rfl
          have hct := HSP.out
          rw [h1] at hct
          have hcc : cutO k.data.toList = some (k.data.toList.take i, k.data.toList.drop (i + 2)) := by
            have := cutO_last (k.data.toList.take i) (k.data.toList.drop (i + 2)) HPL.out
            rwa [← hct] at this
          have HCC := Lib.hid hcc
          clear h1 hct hcc hdb
          go_wp2_with fail
          refine hix.mono ?_
          rintro e w2 ⟨rfl, rfl⟩
          go_wp2_with fail
          have q1 : IntKind.i64.wrap ((i : Int) + 1) = (i : Int) + 1 := by rw [IntKind.wrap_i64]; omega
          have q2 : IntKind.i64.wrap ((i : Int) + 2) = (i : Int) + 2 := by rw [IntKind.wrap_i64]; omega
          have q3 : (0 : Int) ≤ (i : Int) + 1 := by omega
          have q4 : (0 : Int) ≤ (i : Int) + 2 := by omega
          have q5 : ((i : Int) + 1).toNat = i + 1 := by omega
          have q6 : ((i : Int) + 2).toNat = i + 2 := by omega
          go_quiet (fail)
          clear q1 q2 q3 q4 q5 q6
          clear hm
          have HD := Lib.hid (fun n => (show Bs 5 w.heap.size (wr.drewN n) u5 t from hown))
          have hbd := fun n => below_drewN hb n
          have HBD := Lib.hid hbd
          clear hbd
          go_wp2_with (at_builtin; refine wpList_app_str _ rfl (.tmp 31) (.tmp 34) 44 9 rfl 5 w.heap.size Try.underlying44 Try.underlying9 infoB _ t rfl (HD.out _) (k.extract 0 i) rfl hxl (by simpa using hz) ?_; intro v3 w3 hown3 hup3; have hb3 := (HBD.out _).trans (hup3.below (HD.out _) (by simpa using hz)); rw [HX.out] at hown3; have cv3 := CV.out w3 v3 _ hown3)
          refine bodyPost_ret (v := .tuple #[.string ⟨(t ++ k.data.toList.take i).toArray⟩, .string (k.extract (i + 2) k.size), .bool true]) (by simp [results, Try.results69, go_sem]) rfl ⟨hb3, .inr ⟨t ++ k.data.toList.take i, k.data.toList.drop (i + 2), ?_, ?_⟩⟩
          · rw [HC.out, HCC.out]; rfl
          · rw [show k.extract (i + 2) k.size = ⟨(k.data.toList.drop (i + 2)).toArray⟩ from txt_inj HR.out]
        · by_cases h255 : k[i + 1]'hi1 = 255
          · have hm : ∀ h, ((k[i + 1]'h).toNat : Int) = 255 := fun _ => by rw [h255]; rfl
            have hct := HSP.out
            rw [h255] at hct
            have hcc : cutO k.data.toList = (cutO (k.data.toList.drop (i + 2))).map fun p => (k.data.toList.take i ++ 0 :: p.1, p.2) := by
              have := cutO_stuffed (k.data.toList.take i) (k.data.toList.drop (i + 2)) HPL.out
              rwa [← hct] at this
            have HCC := Lib.hid hcc
            clear h1 h255 hct hcc hdb
            go_wp2_with fail
            refine hix.mono ?_
            rintro e w2 ⟨rfl, rfl⟩
            go_wp2_with fail
            have q1 : IntKind.i64.wrap ((i : Int) + 1) = (i : Int) + 1 := by rw [IntKind.wrap_i64]; omega
            have q2 : IntKind.i64.wrap ((i : Int) + 2) = (i : Int) + 2 := by rw [IntKind.wrap_i64]; omega
            have q3 : (0 : Int) ≤ (i : Int) + 1 := by omega
            have q4 : (0 : Int) ≤ (i : Int) + 2 := by omega
            have q5 : ((i : Int) + 1).toNat = i + 1 := by omega
            have q6 : ((i : Int) + 2).toNat = i + 2 := by omega
            go_quiet (fail)
            clear q1 q2 q3 q4 q5 q6
            clear hm
            have HD := Lib.hid (fun n => (show Bs 5 w.heap.size (wr.drewN n) u5 t from hown))
            have hbd := fun n => below_drewN hb n
            have HBD := Lib.hid hbd
            clear hbd
            have q5 : ((i : Int) + 1).toNat = i + 1 := by omega
            go_wp2_with (at_builtin; refine wpList_app_str _ rfl (.tmp 40) (.tmp 44) 44 9 rfl 5 w.heap.size Try.underlying44 Try.underlying9 infoB _ t rfl (HD.out _) (k.extract 0 (i + 1)) rfl hxl1 (by simpa using hz) ?_; intro v3 w3 hown3 hup3; have hb3 := (HBD.out _).trans (hup3.below (HD.out _) (by simpa using hz)); rw [HX1.out] at hown3)
            clear q5
            go_roundw
            case rel =>
              refine ⟨k.extract (i + 2) k.size, t ++ (k.data.toList.take i ++ [0]), rfl, ?_, hown3, hb3, ?_⟩
              · have h1 := HRS.out
                rw [h1]
                simp only [List.length_append, List.length_take, List.length_cons, List.length_nil]
                omega
              · rw [HC.out, HCC.out, HR.out]
                cases cutO (k.data.toList.drop (i + 2)) <;> simp
            case measure =>
              have h1 := HRS.out
              simp only [h1]
              omega
          · have hmd : Hid (cutO k.data.toList = none) := Lib.hid (by
              have := cutO_other (k.data.toList.take i) (k.data.toList.drop (i + 2)) (k[i + 1]'hi1) HPL.out h1 h255
              rwa [← HSP.out] at this)
            have ht1 : (((k[i + 1]'hi1).toNat : Int) == 1) = false := by
              rw [beq_eq_false_iff_ne]; intro e; exact h1 (u8_toNat_eq.2 (by have : (1 : UInt8).toNat = 1 := rfl; omega))
            have ht2 : (((k[i + 1]'hi1).toNat : Int) == 255) = false := by
              rw [beq_eq_false_iff_ne]; intro e; exact h255 (u8_toNat_eq.2 (by have : (255 : UInt8).toNat = 255 := rfl; omega))
            obtain ⟨d, hd⟩ : ∃ d : Int, ((k[i + 1]'hi1).toNat : Int) = d := ⟨_, rfl⟩
            rw [hd] at ht1 ht2
            have hm : ∀ h, ((k[i + 1]'h).toNat : Int) = d := fun _ => hd
            clear h1 h255 hd hdb
            go_wp2_with fail
            refine hix.mono ?_
            rintro e w2 ⟨rfl, rfl⟩
            go_wp2_with fail
            have q1 : IntKind.i64.wrap ((i : Int) + 1) = (i : Int) + 1 := by rw [IntKind.wrap_i64]; omega
            have q2 : IntKind.i64.wrap ((i : Int) + 2) = (i : Int) + 2 := by rw [IntKind.wrap_i64]; omega
            have q3 : (0 : Int) ≤ (i : Int) + 1 := by omega
            have q4 : (0 : Int) ≤ (i : Int) + 2 := by omega
            have q5 : ((i : Int) + 1).toNat = i + 1 := by omega
            have q6 : ((i : Int) + 2).toNat = i + 2 := by omega
            go_quiet (fail)
            clear q1 q2 q3 q4 q5 q6
            clear hm
            go_wp2
            refine bodyPost_ret (v := .tuple #[.string ⟨#[]⟩, .string ⟨#[]⟩, .bool false]) (by simp [results, Try.results69, go_sem]) rfl ⟨below_drewN hb _, .inl ⟨?_, rfl⟩⟩
            rw [HC.out, hmd.out]; rfl

end Go.Proofs.Ytacphlceggbfcaa
