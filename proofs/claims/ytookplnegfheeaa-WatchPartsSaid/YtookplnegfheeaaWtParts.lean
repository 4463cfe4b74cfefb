/-
  WatchParts: its walk.
-/
import Derived.Test.YtookplnegfheeaaWtQ
import Derived.Deep.RegionLaw
namespace Go.Proofs.Ytookplnegfheeaa.watchParts
open Go.RowKit Go.Proofs.Ytookplnegfheeaa.tC Go.Proofs.Ytookplnegfheeaa.sT Go.Proofs.Ytookplnegfheeaa.wT Go.Proofs.Ytookplnegfheeaa.storeFrees

set_option linter.unusedVariables false
set_option linter.unusedSimpArgs false

/-- the second byte of a key -/
def kb (w : Wr) : Option UInt8 := w.key.data.toList[1]?
/-- writes whose second byte is less than b -/
def upTo2 (b : Nat) (ws : List Wr) : Nat := ws.countP fun w => match kb w with | some c => decide (c.toNat < b) | none => false
def long (ws : List Wr) : Nat := ws.countP fun w => decide (1 < w.key.size)
theorem upTo_all (ws : List Wr) : upTo2 256 ws = long ws := by
  unfold upTo2 long
  refine List.countP_congr fun w _ => ?_
  unfold kb
  have hs : w.key.data.toList.length = w.key.size := by rw [Array.length_toList]; rfl
  cases h : w.key.data.toList[1]? with
  | none =>
    have := List.getElem?_eq_none_iff.1 h
    simp
    omega
  | some c =>
    have := (List.getElem?_eq_some_iff.1 h).1
    have h2 : c.toNat < 256 := c.toNat_lt
    simp [h2]
    omega
theorem upTo_zero (ws : List Wr) : upTo2 0 ws = 0 := by
  unfold upTo2
  refine List.countP_eq_zero.2 fun w _ => ?_
  cases kb w <;> simp
/-- a beginning of two bytes -/
def p2 (b : Nat) : ByteArray := (⟨#[107]⟩ : ByteArray) ++ ⟨#[UInt8.ofNat b]⟩
theorem p2_list (b : Nat) : (p2 b).data.toList = [107, UInt8.ofNat b] := rfl
theorem p2_size (b : Nat) : (p2 b).size = 2 := rfl
theorem pre_two {w : Wr} (h : w.key.data.toList[0]? = some 107) (b : Nat) : preB (p2 b) w.key = (kb w == some (UInt8.ofNat b)) := by
  unfold preB kb
  rw [Lib.toList_data, Lib.toList_data, p2_list, p2_size, Lib.extract_data]
  have hs : w.key.data.toList.length = w.key.size := by rw [Array.length_toList]; rfl
  generalize w.key.data.toList = l at h hs ⊢
  rw [← hs]
  match l with
  | [] => simp at h
  | [x] => simp
  | x :: y :: r =>
    have hx : x = 107 := by simpa using h
    subst hx
    by_cases hy : y = UInt8.ofNat b
    · simp [hy]
    · simp [hy]
theorem upTo_next {ws : List Wr} (h : ∀ w ∈ ws, w.key.data.toList[0]? = some 107) {b : Nat} (hb : b < 256) : upTo2 (b + 1) ws = upTo2 b ws + (begF (p2 b) ws).length := by
  unfold upTo2 begF
  induction ws with
  | nil => rfl
  | cons w r ih =>
    rw [List.countP_cons, List.countP_cons, List.filter_cons, ih fun x hx => h x (List.mem_cons_of_mem _ hx), pre_two (h w List.mem_cons_self) b]
    have hb2 : (UInt8.ofNat b).toNat = b := by rw [UInt8.toNat_ofNat']; omega
    cases hk : kb w with
    | none => simp
    | some c =>
      by_cases hc : c = UInt8.ofNat b
      · subst hc
        simp [hb2]
        omega
      · have hne : c.toNat ≠ b := fun e => hc (by rw [← e]; simp)
        have h1 : (decide (c.toNat < b + 1)) = decide (c.toNat < b) := by by_cases h2 : c.toNat < b <;> simp [h2] <;> omega
        simp [hc, h1]
        omega
theorem some1_k (x : Wr) : (some1 x).key.data.toList[0]? = some 107 := by
  have h1 : (some1 x).key = cutB ((⟨#[107]⟩ : ByteArray) ++ x.key) 20 := rfl
  have h2 : ((⟨#[107]⟩ : ByteArray) ++ x.key).data.toList = 107 :: x.key.data.toList := by
    rw [ByteArray.data_append]
    simp
  rw [h1]
  unfold cutB
  split
  · rw [Lib.extract_data, h2]
    simp
  · rw [h2]
    simp
theorem list_k (wss : List (List Wr)) : ∀ w ∈ allW (listC 1 wss), w.key.data.toList[0]? = some 107 := fun w hw => by
  obtain ⟨c, hc, hw⟩ := List.mem_flatMap.1 hw
  obtain ⟨i, hi, rfl⟩ := List.getElem_of_mem hc
  have hl := hi
  rw [listC_len] at hl
  have := listC_get 1 wss i hl
  rw [List.getElem?_eq_getElem hi] at this
  rw [Option.some.inj this] at hw
  have hw2 : w ∈ sortW ((wss[i].take 12).map some1) := hw
  obtain ⟨y, _, rfl⟩ := List.mem_map.1 (sortW_mem w hw2)
  exact some1_k y
theorem allW_told (p : ByteArray) (cs : List CmM) : allW (told p cs) = begF p (allW cs) := by
  unfold allW told begF
  induction cs with
  | nil => rfl
  | cons c r ih =>
    rw [List.map_cons, List.filter_cons, List.flatMap_cons, List.filter_append, ← ih]
    have e : (cutC p c).ws = c.ws.filter fun w => preB p w.key := rfl
    by_cases h : (cutC p c).ws = []
    · have h2 : (!(cutC p c).ws.isEmpty) = false := by rw [h]; rfl
      rw [if_neg (by rw [h2]; simp), ← e, h]
      rfl
    · have h2 : (!(cutC p c).ws.isEmpty) = true := by
        rw [Bool.not_eq_true', Bool.eq_false_iff]
        exact fun h3 => h (List.isEmpty_iff.1 h3)
      rw [if_pos h2, List.flatMap_cons, e]
theorem allW_up (cs : List CmM) {z : Nat} (hz : z < cs.length) : allW (cs.drop z) = (cs[z]).ws ++ allW (cs.drop (z + 1)) := by
  rw [List.drop_eq_getElem_cons hz]
  unfold allW
  rw [List.flatMap_cons]
theorem long_app (a b : List Wr) : long (a ++ b) = long a + long b := List.countP_append
theorem long_up (ws : List Wr) {j : Nat} (hj : j < ws.length) : long (ws.drop j) = (if 1 < (ws[j]).key.size then 1 else 0) + long (ws.drop (j + 1)) := by
  rw [List.drop_eq_getElem_cons hj]
  unfold long
  rw [List.countP_cons]
  by_cases h : 1 < (ws[j]).key.size
  · simp [h]; omega
  · simp [h]

/-- 'string([]byte{x})' -/
theorem conv_byte (w : World) (j : Nat) (hj : j < 256) :
    (convert 79 9 (.slice (some ⟨w.heap.size, 0, none⟩) 1 1)).run Try.prog (w.alloc (.cells #[.int .u8 (j : Int)] 5)) = .ok (.string ⟨#[UInt8.ofNat j]⟩) (w.alloc (.cells #[.int .u8 (j : Int)] 5)) := by
  refine run_convert_bytes_back (P := Try.prog) (w.alloc (.cells #[.int .u8 (j : Int)] 5)) 79 9 5 ⟨w.heap.size, 0, none⟩ 1 [UInt8.ofNat j] Try.underlying79 Try.underlying5 Try.underlying9 fun i hi => ?_
  obtain rfl : i = 0 := by simp at hi; omega
  have e : ((⟨w.heap.size, 0, none⟩ : Addr).add 0) = ⟨w.heap.size, 0, none⟩ := by unfold Addr.add; simp
  rw [e, cell_of_row _ w.heap.size 0 _ _ (0, 0) (heap_alloc_new w _)]
  have h1 : ((UInt8.ofNat j).toNat : Int) = (j : Int) := by rw [UInt8.toNat_ofNat']; omega
  simp
  omega

theorem walk_out {w : World} (a : Option Addr) (len cap : Nat) (h : 30 < len) :
    Calls Try.prog 11 #[.slice a len cap] w fun e W' => e = .returned (.bool true) ∧ Below w.heap.size w W' := by
  have hI : (30 : Int) < (len : Int) := by omega
  clear h
  go_enter Try.func11, Try.ntmps11
  go_wp2_with fail
  refine (head17_any _).mono ?_
  rintro e w1 ⟨rfl, hb1⟩
  have HB1 := Lib.hid hb1
  clear hb1
  go_wp2
  first | exact ⟨rfl, HB1.out⟩ | (go_ret; exact ⟨rfl, HB1.out⟩)

/-- what stays -/
structure PtS (w wr : World) (s : Nat) (M : StM) (cs : List CmM) (la : Option Addr) : Prop where
  low : Below w.heap.size w wr
  store : ∃ P, StoreAt P wr s M
  list : CIs wr la cs
theorem PtS.below {w wr w' : World} {s : Nat} {M : StM} {cs : List CmM} {la : Option Addr} (h : PtS w wr s M cs la) (hb : Below wr.heap.size wr w') : PtS w w' s M cs la := by
  obtain ⟨h1, ⟨P, h2⟩, h4⟩ := h
  exact ⟨h1.trans (hb.mono h1.size), ⟨P, h2.below hb⟩, h4.below hb⟩

set_option maxHeartbeats 4000000 in
set_option maxRecDepth 100000 in
theorem walk_main {w : World} (a : Option Addr) (len cap : Nat) {wss : List (List Wr)} (hW : WwsCame w a len wss) (hle : len ≤ 30) :
    Calls Try.prog 11 #[.slice a len cap] w fun e W' => e = .returned (.bool true) ∧ Below w.heap.size w W' := by
  have hlen := hW.1
  have hI30 : ((30 : Int) < (len : Int)) = False := eq_false (by omega)
  have HMD := Lib.hid (fun (w1 : World) (hb : Below w.heap.size w w1) => made17_any cap hW hle w1 hb 0 (Nat.zero_le _))
  have hcl : (listC 1 wss).length = len := by rw [listC_len, hlen]
  obtain ⟨hsg, hlow, hcms⟩ := made_sg wss (by omega) 0 (by omega)
  have hsq := seqs_list wss
  have h12 := listC_12 1 wss
  have hkk := list_k wss
  obtain ⟨M, hM⟩ : ∃ M, M = (madeM 0 [] (listC 1 wss)).vacuum 0 := ⟨_, rfl⟩
  obtain ⟨cs, hcs⟩ : ∃ cs, cs = listC 1 wss := ⟨_, rfl⟩
  rw [← hM] at HMD hsg hlow hcms
  rw [← hcs] at HMD hcl hcms hsq h12 hkk
  rw [hlen] at hsg
  rw [List.drop_zero] at hcms
  have hall : (allW cs).length ≤ 400 := by have := hsg.ws; rw [hcms] at this; omega
  have HPO : Hid (∀ w2 s (p : ByteArray), p.size ≤ 60 → (∃ P, StoreAt P w2 s M) → Calls Try.prog 37 #[.pointer (some ⟨s, 0, none⟩), .int .i64 0, .string p, .int .i64 100] w2 fun e W' => ∃ n oa oc mk, e = .returned (.tuple #[.agg #[.slice oa n oc, .int .i64 ((mk : Nat) : Int)], .int .i64 0]) ∧ Hid (n = (told p cs).length ∧ Below w2.heap.size w2 W' ∧ CIs W' oa (told p cs))) := Lib.hid fun w2 s p hp hS => by
    obtain ⟨P, hP⟩ := hS
    refine (poll_gen hP hsg (by omega) hsq (by rw [hlow]; omega) (by rw [hcms, hlow, List.drop_zero]) 0 (by omega) (by omega) p (by omega) 100 (by omega) (by omega)).mono ?_
    rintro e W' ⟨n, oa, oc, mk, rfl, hO⟩
    have h1 := hO.out.len
    have h2 := told_len p cs
    have h3 := hO.out.list
    rw [List.drop_zero] at h1 h3
    have hn : n = (told p cs).length := by omega
    rw [hn, List.take_length] at h3
    exact ⟨n, oa, oc, mk, rfl, Lib.hid ⟨hn, hO.out.low, h3.is⟩⟩
  have HC := Lib.hid (And.intro hcl (And.intro h12 (And.intro hkk hall)))
  clear hW hcl hsg hlow hcms hsq h12 hM hcs hlen hkk hall
  go_enter Try.func11, Try.ntmps11
  go_wp2_with fail
  refine (head17_any _).mono ?_
  rintro e w1 ⟨rfl, hb1⟩
  have HMD1 := Lib.hid (And.intro hb1 (HMD.out w1 hb1))
  clear hb1 HMD
  go_wp2_with fail
  refine HMD1.out.2.mono ?_
  rintro e w2 ⟨s, la, lc, rfl, HS⟩
  have H2 : Hid (PtS w w2 s M cs la) := Lib.hid ⟨HMD1.out.1.trans (HS.out.1.mono HMD1.out.1.size), HS.out.store, (MdS.list HS.out).2.1⟩
  clear HMD1 HS
  have h00 : Hid (upTo2 0 (allW cs) = 0) := Lib.hid (upTo_zero _)
  go_wp2_with fail
  go_loopw [5, 6] (fun nv bv wr => ∃ b n : Nat, b ≤ 256 ∧ n ≤ 400 ∧ nv = .int .i64 (n : Int) ∧ bv = .int .i64 (b : Int) ∧ Hid (n = upTo2 b (allW cs) ∧ PtS w wr s M cs la)) (fun _ bv _ => 256 - (intOf bv).toNat)
  case atStart => exact ⟨0, 0, by omega, by omega, rfl, rfl, Lib.hid ⟨h00.out.symm, H2.out⟩⟩
  case round =>
    obtain ⟨b, n, hb, hn, rfl, rfl, hst⟩ := hrel
    clear H2 h00
    obtain ⟨wo, hwo⟩ : ∃ wo, wo = wr := ⟨_, rfl⟩
    subst hwo
    by_cases hbl : b < 256
    · have hbI : (b : Int) < 256 := by omega
      have hcv := conv_byte wo b hbl
      have hwb : IntKind.u8.wrap (b : Int) = (b : Int) := by rw [IntKind.wrap_u8]; omega
      have hpp : Hid ((⟨#[107]⟩ : ByteArray) ++ ⟨#[UInt8.ofNat b]⟩ = p2 b) := Lib.hid rfl
      have hbA : Below wo.heap.size wo (wo.alloc (.cells #[.int .u8 (b : Int)] 5)) := (Below.refl _ _).alloc (Nat.le_refl _) _
      have HP1 := Lib.hid (And.intro (hst.out.2.below hbA) (HPO.out _ s (p2 b) (by rw [p2_size]; omega) (hst.out.2.below hbA).store))
      have HUP := Lib.hid (upTo_next HC.out.2.2.1 hbl)
      have hup400 : upTo2 (b + 1) (allW cs) ≤ 400 := Nat.le_trans List.countP_le_length HC.out.2.2.2
      clear hbA hcv
      have hcv := conv_byte wo b hbl
      go_wp2_with fail
      rw [hpp.out]
      clear hpp hcv
      refine HP1.out.2.mono ?_
      rintro e w5 ⟨n1, oa, oc, mk, rfl, HPL⟩
      have H6 : Hid (PtS w (w5.alloc (.cells #[.slice oa n1 oc, .int .i64 (mk : Int)] 58)) s M cs la ∧ CIs (w5.alloc (.cells #[.slice oa n1 oc, .int .i64 (mk : Int)] 58)) oa (told (p2 b) cs)) := Lib.hid (by
        have h2 : Below w5.heap.size w5 (w5.alloc (.cells #[.slice oa n1 oc, .int .i64 (mk : Int)] 58)) := (Below.refl _ w5).alloc (Nat.le_refl _) _
        exact ⟨(HP1.out.1.below HPL.out.2.1).below h2, HPL.out.2.2.below h2⟩)
      have HN1 := Lib.hid HPL.out.1
      have hn1 : n1 ≤ 30 := by have := HN1.out; have := told_len (p2 b) cs; have := HC.out.1; omega
      obtain ⟨l, hl⟩ : ∃ l, l = told (p2 b) cs := ⟨_, rfl⟩
      have HBL : Hid (n + (allW l).length = upTo2 (b + 1) (allW cs)) := Lib.hid (by rw [hl, allW_told, HUP.out, hst.out.1])
      rw [← hl] at H6 HN1
      obtain ⟨w6, hw6⟩ : ∃ w6, w6 = (w5.alloc (.cells #[.slice oa n1 oc, .int .i64 (mk : Int)] 58)) := ⟨_, rfl⟩
      rw [← hw6] at H6
      have HW6 := Lib.hid hw6
      have h01 : Hid ((allW (l.take 0)).length = 0) := Lib.hid rfl
      clear hl hw6 HP1 HPL HUP hst
      go_wp2_with fail
      try rw [← HW6.out]
      go_loopw [5, 44] (fun nv jv wj => ∃ j k : Nat, j ≤ n1 ∧ k ≤ 400 ∧ jv = .int .i64 (j : Int) ∧ nv = .int .i64 ((n + k : Nat) : Int) ∧ Hid (k = (allW (l.take j)).length ∧ Below w6.heap.size w6 wj)) (fun _ jv _ => n1 - (intOf jv).toNat)
      case atStart => exact ⟨0, 0, by omega, by omega, rfl, rfl, Lib.hid ⟨h01.out.symm, Below.refl _ _⟩⟩
      case round =>
        obtain ⟨j, k, hj, hk, rfl, rfl, hsj⟩ := hrel
        clear h01
        by_cases hjl : j < n1
        · have hjI : (j : Int) < (n1 : Int) := by omega
          have hjc : j < l.length := by rw [← HN1.out]; exact hjl
          obtain ⟨b1, o1, wa, wc, e1, hlt1, m0, m1, m2, hw1⟩ := cis_get (H6.out.2.below hsj.out.2) (z := j) hjc
          have hnx := congrArg List.length (allW_next l hjc)
          rw [List.length_append, ← hsj.out.1] at hnx
          have hle2 := allW_len l (j + 1)
          have hbl2 := HBL.out
          obtain ⟨c, hc⟩ : ∃ c, c = l[j] := ⟨_, rfl⟩
          rw [← hc] at m0 m1 m2 hnx
          clear hc hw1
          obtain ⟨sq, at_, ws⟩ := c
          obtain ⟨wl, hwl⟩ : ∃ wl, wl = ws.length := ⟨_, rfl⟩
          simp only at m0 m1 m2 hnx
          rw [← hwl] at m2 hnx
          have hk4 : k + wl ≤ 400 := by omega
          have HNX := Lib.hid hnx
          have HNN : Hid (k + wl = (allW (l.take (j + 1))).length ∧ Below w6.heap.size w6 (wr.alloc (.cells #[.int .i64 sq, .int .i64 at_, .slice wa wl wc] 43))) := Lib.hid ⟨hnx.symm, hsj.out.2.trans (((Below.refl _ wr).alloc (Nat.le_refl _) _).mono hsj.out.2.size)⟩
          subst e1
          clear hwl hsj hnx hle2 hbl2
          go_wp2
          go_roundw
          case rel => exact ⟨j + 1, k + wl, by omega, by omega, by go_num, by go_num, HNN⟩
          case measure => simp [intOf]; omega
        · obtain rfl : j = n1 := by omega
          have hjI : ((j : Int) < (j : Int)) = False := eq_false (by omega)
          have HN : Hid (n + k = upTo2 (b + 1) (allW cs) ∧ PtS w wr s M cs la) := Lib.hid ⟨by rw [← HBL.out, hsj.out.1, show l.take j = l by rw [HN1.out, List.take_length]], H6.out.1.below hsj.out.2⟩
          have hnk : n + k ≤ 400 := by rw [HN.out.1]; exact hup400
          clear hsj H6 HBL HN1
          go_wp2
          go_roundw
          case rel => exact ⟨b + 1, n + k, by omega, hnk, rfl, by go_num, HN⟩
          case measure => simp [intOf]; omega
    · obtain rfl : b = 256 := by omega
      have hbI : (((256 : Nat) : Int) < 256) = False := eq_false (by omega)
      have H7 : Hid (n = long (allW (cs.drop 0)) ∧ PtS w wo s M cs la) := Lib.hid ⟨by rw [hst.out.1, upTo_all]; rfl, hst.out.2⟩
      clear hst hbl HPO
      go_wp2_with fail
      go_loopw [5, 56] (fun nv zv wr => ∃ z n : Nat, z ≤ len ∧ n ≤ 400 ∧ nv = .int .i64 (n : Int) ∧ zv = .int .i64 (z : Int) ∧ Hid (n = long (allW (cs.drop z)) ∧ PtS w wr s M cs la)) (fun _ zv _ => len - (intOf zv).toNat)
      case atStart => exact ⟨0, n, by omega, hn, rfl, rfl, H7⟩
      case round =>
        obtain ⟨z, n2, hz, hn2, rfl, rfl, hst⟩ := hrel
        clear H7
        obtain ⟨wq, hwq⟩ : ∃ wq, wq = wr := ⟨_, rfl⟩
        subst hwq
        by_cases hzl : z < len
        · have hzI : (z : Int) < (len : Int) := by omega
          have hzc : z < cs.length := by rw [HC.out.1]; exact hzl
          obtain ⟨b1, o1, wa, wc, e1, hlt1, m0, m1, m2, hw1⟩ := cis_get hst.out.2.list (z := z) hzc
          have hwl12 := HC.out.2.1 _ (List.getElem_mem hzc)
          have hup := congrArg long (allW_up cs hzc)
          rw [long_app, ← hst.out.1] at hup
          obtain ⟨c, hc⟩ : ∃ c, c = cs[z] := ⟨_, rfl⟩
          rw [← hc] at m0 m1 m2 hup hw1 hwl12
          clear hc
          obtain ⟨sq, at_, ws⟩ := c
          obtain ⟨wl, hwl⟩ : ∃ wl, wl = ws.length := ⟨_, rfl⟩
          simp only at m0 m1 m2 hup hw1 hwl12
          rw [← hwl] at m2 hwl12
          obtain ⟨r, hr⟩ : ∃ r, r = long (allW (cs.drop (z + 1))) := ⟨_, rfl⟩
          rw [← hr] at hup
          have hbA : Below wq.heap.size wq (wq.alloc (.cells #[.int .i64 sq, .int .i64 at_, .slice wa wl wc] 43)) := (Below.refl _ wq).alloc (Nat.le_refl _) _
          have HZ : Hid (wl = ws.length ∧ r = long (allW (cs.drop (z + 1))) ∧ PtS w (wq.alloc (.cells #[.int .i64 sq, .int .i64 at_, .slice wa wl wc] 43)) s M cs la ∧ WrsIs (wq.alloc (.cells #[.int .i64 sq, .int .i64 at_, .slice wa wl wc] 43)) wa ws) := Lib.hid ⟨hwl, hr, hst.out.2.below hbA, hw1.below hbA⟩
          have HUP : Hid (n2 = long (ws.drop 0) + r) := Lib.hid hup
          obtain ⟨w8, hw8⟩ : ∃ w8, w8 = (wq.alloc (.cells #[.int .i64 sq, .int .i64 at_, .slice wa wl wc] 43)) := ⟨_, rfl⟩
          rw [← hw8] at HZ
          have HW8 := Lib.hid hw8
          subst e1
          clear hwl hr hup hst hw8 hbA hw1
          go_wp2_with fail
          try rw [← HW8.out]
          clear HW8
          go_loopw [5, 63] (fun nv jv wj => ∃ j n : Nat, j ≤ wl ∧ n ≤ 400 ∧ jv = .int .i64 (j : Int) ∧ nv = .int .i64 (n : Int) ∧ Hid (n = long (ws.drop j) + r ∧ Below w8.heap.size w8 wj)) (fun _ jv _ => wl - (intOf jv).toNat)
          case atStart => exact ⟨0, n2, by omega, hn2, rfl, rfl, Lib.hid ⟨HUP.out, Below.refl _ _⟩⟩
          case round =>
            obtain ⟨j, n3, hj, hn3, rfl, rfl, hsj⟩ := hrel
            clear HUP
            by_cases hjl : j < wl
            · have hjI : (j : Int) < (wl : Int) := by omega
              have hjc : j < ws.length := by rw [← HZ.out.1]; exact hjl
              obtain ⟨b3, off3, ea, hblt3, ⟨k0, k1, k2⟩, _⟩ := (HZ.out.2.2.2.below hsj.out.2).at_ j hjc
              have hlu := long_up ws hjc
              obtain ⟨y, hy⟩ : ∃ y, y = ws[j] := ⟨_, rfl⟩
              rw [← hy] at k0 k1 k2 hlu
              clear hy
              obtain ⟨yk, yv, yg⟩ := y
              simp only at k0 k1 k2 hlu
              have hbB : Below w8.heap.size w8 (wr.alloc (.cells #[.string yk, .string yv, .bool yg] 81)) := hsj.out.2.trans (((Below.refl _ wr).alloc (Nat.le_refl _) _).mono hsj.out.2.size)
              by_cases hy1 : 1 < yk.size
              · have hyI : (1 : Int) < (yk.size : Int) := by omega
                rw [if_pos hy1] at hlu
                have h3 := hsj.out.1
                have hn31 : 1 ≤ n3 := by omega
                have HN : Hid (n3 - 1 = long (ws.drop (j + 1)) + r ∧ Below w8.heap.size w8 (wr.alloc (.cells #[.string yk, .string yv, .bool yg] 81))) := Lib.hid ⟨by omega, hbB⟩
                subst ea
                clear hlu hsj hbB h3
                go_wp2
                go_roundw
                case rel => exact ⟨j + 1, n3 - 1, by omega, by omega, by go_num, by go_num, HN⟩
                case measure => simp [intOf]; omega
              · have hyI : ((1 : Int) < (yk.size : Int)) = False := eq_false (by omega)
                rw [if_neg hy1] at hlu
                have h3 := hsj.out.1
                have HN : Hid (n3 = long (ws.drop (j + 1)) + r ∧ Below w8.heap.size w8 (wr.alloc (.cells #[.string yk, .string yv, .bool yg] 81))) := Lib.hid ⟨by omega, hbB⟩
                subst ea
                clear hlu hsj hbB h3 hy1
                go_wp2
                go_roundw
                case rel => exact ⟨j + 1, n3, by omega, by omega, by go_num, by go_num, HN⟩
                case measure => simp [intOf]; omega
            · obtain rfl : j = wl := by omega
              have hjI : ((j : Int) < (j : Int)) = False := eq_false (by omega)
              have HN : Hid (n3 = long (allW (cs.drop (z + 1))) ∧ PtS w wr s M cs _) := Lib.hid ⟨by
                have h3 := hsj.out.1
                rw [HZ.out.1, List.drop_length] at h3
                rw [← HZ.out.2.1, h3]
                simp [long], HZ.out.2.2.1.below hsj.out.2⟩
              clear hsj HZ
              go_wp2
              go_roundw
              case rel => exact ⟨z + 1, n3, by omega, by omega, rfl, by go_num, HN⟩
              case measure => simp [intOf]; omega
        · obtain rfl : z = len := by omega
          have hzI : ((z : Int) < (z : Int)) = False := eq_false (by omega)
          have hn0 : n2 = 0 := by
            rw [hst.out.1, ← HC.out.1, List.drop_length]
            rfl
          subst hn0
          have HF := Lib.hid hst.out.2.low
          clear hst
          go_wp2
          first | exact ⟨rfl, HF.out⟩ | (go_ret; exact ⟨rfl, HF.out⟩)

theorem walk {w : World} (a : Option Addr) (len cap : Nat) (hW : ∃ wss, WwsCame w a len wss) :
    Calls Try.prog 11 #[.slice a len cap] w fun e W' => e = .returned (.bool true) ∧ Below w.heap.size w W' := by
  by_cases h30 : 30 < len
  · exact walk_out a len cap h30
  obtain ⟨wss, hW⟩ := hW
  exact walk_main a len cap hW (by omega)

end Go.Proofs.Ytookplnegfheeaa.watchParts
