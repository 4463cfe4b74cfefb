/-
  WatchPolls: its walk.
-/
import Derived.Test.YtookplnegfheeaaWtQ
import Derived.Deep.RegionLaw
namespace Go.Proofs.Ytookplnegfheeaa.watchPolls
open Go.RowKit Go.Proofs.Ytookplnegfheeaa.tC Go.Proofs.Ytookplnegfheeaa.sT Go.Proofs.Ytookplnegfheeaa.wT Go.Proofs.Ytookplnegfheeaa.storeFrees

set_option linter.unusedVariables false
set_option linter.unusedSimpArgs false

theorem and_255 (n : Int) : bits .and .i64 n 255 = n % 256 := by
  have hc : (BitVec.ofInt 64 255).toNat = 2 ^ 8 - 1 := by decide
  have key : (BitVec.ofInt 64 n &&& BitVec.ofInt 64 255).toNat = (n % ((2 ^ 64 : Nat) : Int)).toNat % 2 ^ 8 := by
    rw [BitVec.toNat_and, BitVec.toNat_ofInt, hc, Nat.and_two_pow_sub_one_eq_mod]
  show IntKind.i64.wrap ((BitVec.ofInt 64 n &&& BitVec.ofInt 64 255).toNat : Nat) = n % 256
  rw [key, IntKind.wrap_i64]
  omega

theorem walk_out1 {w : World} (a : Option Addr) (len cap : Nat) (lw mark : Int) (p : ByteArray) (most : Int) (h : 30 < len) :
    Calls Try.prog 7 #[.slice a len cap, .int .i64 lw, .int .i64 mark, .string p, .int .i64 most] w fun e W' => e = .returned (.bool true) ∧ Below w.heap.size w W' := by
  have hI : (30 : Int) < (len : Int) := by omega
  clear h
  go_enter Try.func7, Try.ntmps7
  go_wp2_with fail
  refine (head17_any _).mono ?_
  rintro e w1 ⟨rfl, hb1⟩
  have HB1 := Lib.hid hb1
  clear hb1
  go_wp2
  first | exact ⟨rfl, HB1.out⟩ | (go_ret; exact ⟨rfl, HB1.out⟩)

theorem walk_out2 {w : World} (a : Option Addr) (len cap : Nat) (lw mark : Int) (p : ByteArray) (most : Int) (h : len ≤ 30 ∧ 500 < p.size) :
    Calls Try.prog 7 #[.slice a len cap, .int .i64 lw, .int .i64 mark, .string p, .int .i64 most] w fun e W' => e = .returned (.bool true) ∧ Below w.heap.size w W' := by
  have hI : ((30 : Int) < (len : Int)) = False := eq_false (by omega)
  have hJ : (500 : Int) < (p.size : Int) := by omega
  clear h
  go_enter Try.func7, Try.ntmps7
  go_wp2_with fail
  refine (head17_any _).mono ?_
  rintro e w1 ⟨rfl, hb1⟩
  have HB1 := Lib.hid hb1
  clear hb1
  go_wp2
  first | exact ⟨rfl, HB1.out⟩ | (go_ret; exact ⟨rfl, HB1.out⟩)

set_option maxHeartbeats 2000000 in
set_option maxRecDepth 100000 in
theorem walk_arg1 {w : World} (a : Option Addr) (len cap : Nat) {wss : List (List Wr)} (hW : WwsCame w a len wss) (hle : len ≤ 30) (lw mark : Int) (p : ByteArray) (hp : p.size ≤ 500) (most : Int) (k : Nat) (hk : k ≤ len) (hkeq : ∀ c0 : Nat, lw % 256 = (c0 : Int) → (c0 : Int) % ((len : Int) + 1) = (k : Int)) (h : most < 1) :
    Calls Try.prog 7 #[.slice a len cap, .int .i64 lw, .int .i64 mark, .string p, .int .i64 most] w fun e W' => e = .returned (.bool true) ∧ Below w.heap.size w W' := by
  have hlen := hW.1
  have hI30 : ((30 : Int) < (len : Int)) = False := eq_false (by omega)
  have hI500 : ((500 : Int) < (p.size : Int)) = False := eq_false (by omega)
  obtain ⟨c0, hc0⟩ : ∃ c0 : Nat, lw % 256 = (c0 : Int) := ⟨(lw % 256).toNat, by omega⟩
  have hm := and_255 lw
  rw [hc0] at hm
  have HK := Lib.hid (hkeq c0 hc0)
  have hlz : (((len : Int) + 1) == 0) = false := by rw [beq_eq_false_iff_ne]; omega
  have HMD := Lib.hid (fun (w1 : World) (hb : Below w.heap.size w w1) => made17_any cap hW hle w1 hb k hk)
  have hcl : (listC 1 wss).length = len := by rw [listC_len, hlen]
  obtain ⟨hsg, hlow, hcms⟩ := made_sg wss (by omega) k (by omega)
  have hsq := seqs_list wss
  have h12 := listC_12 1 wss
  obtain ⟨M, hM⟩ : ∃ M, M = (madeM 0 [] (listC 1 wss)).vacuum k := ⟨_, rfl⟩
  obtain ⟨cs, hcs⟩ : ∃ cs, cs = listC 1 wss := ⟨_, rfl⟩
  rw [← hM] at HMD hsg hlow hcms
  rw [← hcs] at HMD hcl hcms hsq h12
  have hlast : (M.last : Int) = (len : Int) := by
    have : M.last = M.low + M.cms.length := rfl
    rw [this, hlow, hcms, List.length_drop, hcl]
    omega
  rw [hlen] at hsg
  have HPE : Hid (∀ w2 s lv, MdS w w2 s M lv cs → Calls Try.prog 37 #[.pointer (some ⟨s, 0, none⟩), .int .i64 mark, .string p, .int .i64 most] w2 fun e W' => e = .returned (.tuple #[.agg #[.slice none 0 0, .int .i64 0], .int .i64 1]) ∧ Hid (Below w2.heap.size w2 W')) := Lib.hid fun w2 s lv hS => by
    refine (poll_arg _ mark p most w2 (.inl h)).mono ?_
    rintro e W' ⟨rfl, hb⟩
    exact ⟨rfl, Lib.hid hb⟩
  have q1 : most < 1 := h
  clear hW hkeq hc0 hcl hsg hlow hcms hsq h12 hM hcs hlast hlen hk hp h
  go_enter Try.func7, Try.ntmps7
  go_wp2_with fail
  refine (head17_any _).mono ?_
  rintro e w1 ⟨rfl, hb1⟩
  have HMD1 := Lib.hid (And.intro hb1 (HMD.out w1 hb1))
  clear hb1 HMD
  go_wp2_with fail
  rw [HK.out]
  clear HK hlz hm
  refine HMD1.out.2.mono ?_
  rintro e w2 ⟨s, la, lc, rfl, HS⟩
  have HB1 := Lib.hid HMD1.out.1
  clear HMD1
  have HP1 := Lib.hid (HPE.out w2 s _ (by obtain ⟨g1, g2, g3, g4⟩ := HS.out; exact ⟨HB1.out.trans (g1.mono HB1.out.size), g2, (by obtain ⟨⟨P, k1, k2⟩, k3, k4⟩ := g3; exact ⟨⟨P, k1, fun q hq => ⟨Nat.le_trans HB1.out.size (k2 q hq).1, (k2 q hq).2⟩⟩, k3, Nat.le_trans HB1.out.size k4⟩), g4⟩))
  have HB2 := Lib.hid (HB1.out.trans (HS.out.1.mono HB1.out.size))
  clear HPE HB1 HS
  go_wp2_with fail
  refine HP1.out.mono ?_
  rintro e w3 ⟨rfl, HB3⟩
  clear HP1
  have HF : Hid (Below w.heap.size w (w3.alloc (.cells #[.slice none 0 0, .int .i64 0] 58))) := Lib.hid ((HB2.out.trans (HB3.out.mono HB2.out.size)).trans (((Below.refl _ w3).alloc (Nat.le_refl _) _).mono (Nat.le_trans HB2.out.size HB3.out.size)))
  clear HB2 HB3
  go_wp2
  first | exact ⟨rfl, HF.out⟩ | (go_ret; exact ⟨rfl, HF.out⟩)

set_option maxHeartbeats 2000000 in
set_option maxRecDepth 100000 in
theorem walk_arg2 {w : World} (a : Option Addr) (len cap : Nat) {wss : List (List Wr)} (hW : WwsCame w a len wss) (hle : len ≤ 30) (lw mark : Int) (p : ByteArray) (hp : p.size ≤ 500) (most : Int) (k : Nat) (hk : k ≤ len) (hkeq : ∀ c0 : Nat, lw % 256 = (c0 : Int) → (c0 : Int) % ((len : Int) + 1) = (k : Int)) (h : ¬ most < 1 ∧ 100 < most) :
    Calls Try.prog 7 #[.slice a len cap, .int .i64 lw, .int .i64 mark, .string p, .int .i64 most] w fun e W' => e = .returned (.bool true) ∧ Below w.heap.size w W' := by
  have hlen := hW.1
  have hI30 : ((30 : Int) < (len : Int)) = False := eq_false (by omega)
  have hI500 : ((500 : Int) < (p.size : Int)) = False := eq_false (by omega)
  obtain ⟨c0, hc0⟩ : ∃ c0 : Nat, lw % 256 = (c0 : Int) := ⟨(lw % 256).toNat, by omega⟩
  have hm := and_255 lw
  rw [hc0] at hm
  have HK := Lib.hid (hkeq c0 hc0)
  have hlz : (((len : Int) + 1) == 0) = false := by rw [beq_eq_false_iff_ne]; omega
  have HMD := Lib.hid (fun (w1 : World) (hb : Below w.heap.size w w1) => made17_any cap hW hle w1 hb k hk)
  have hcl : (listC 1 wss).length = len := by rw [listC_len, hlen]
  obtain ⟨hsg, hlow, hcms⟩ := made_sg wss (by omega) k (by omega)
  have hsq := seqs_list wss
  have h12 := listC_12 1 wss
  obtain ⟨M, hM⟩ : ∃ M, M = (madeM 0 [] (listC 1 wss)).vacuum k := ⟨_, rfl⟩
  obtain ⟨cs, hcs⟩ : ∃ cs, cs = listC 1 wss := ⟨_, rfl⟩
  rw [← hM] at HMD hsg hlow hcms
  rw [← hcs] at HMD hcl hcms hsq h12
  have hlast : (M.last : Int) = (len : Int) := by
    have : M.last = M.low + M.cms.length := rfl
    rw [this, hlow, hcms, List.length_drop, hcl]
    omega
  rw [hlen] at hsg
  have HPE : Hid (∀ w2 s lv, MdS w w2 s M lv cs → Calls Try.prog 37 #[.pointer (some ⟨s, 0, none⟩), .int .i64 mark, .string p, .int .i64 most] w2 fun e W' => e = .returned (.tuple #[.agg #[.slice none 0 0, .int .i64 0], .int .i64 1]) ∧ Hid (Below w2.heap.size w2 W')) := Lib.hid fun w2 s lv hS => by
    refine (poll_arg _ mark p most w2 (.inr (.inl h))).mono ?_
    rintro e W' ⟨rfl, hb⟩
    exact ⟨rfl, Lib.hid hb⟩
  have q1 : (most < 1) = False := eq_false h.1
  have q2 : (100 : Int) < most := h.2
  clear hW hkeq hc0 hcl hsg hlow hcms hsq h12 hM hcs hlast hlen hk hp h
  go_enter Try.func7, Try.ntmps7
  go_wp2_with fail
  refine (head17_any _).mono ?_
  rintro e w1 ⟨rfl, hb1⟩
  have HMD1 := Lib.hid (And.intro hb1 (HMD.out w1 hb1))
  clear hb1 HMD
  go_wp2_with fail
  rw [HK.out]
  clear HK hlz hm
  refine HMD1.out.2.mono ?_
  rintro e w2 ⟨s, la, lc, rfl, HS⟩
  have HB1 := Lib.hid HMD1.out.1
  clear HMD1
  have HP1 := Lib.hid (HPE.out w2 s _ (by obtain ⟨g1, g2, g3, g4⟩ := HS.out; exact ⟨HB1.out.trans (g1.mono HB1.out.size), g2, (by obtain ⟨⟨P, k1, k2⟩, k3, k4⟩ := g3; exact ⟨⟨P, k1, fun q hq => ⟨Nat.le_trans HB1.out.size (k2 q hq).1, (k2 q hq).2⟩⟩, k3, Nat.le_trans HB1.out.size k4⟩), g4⟩))
  have HB2 := Lib.hid (HB1.out.trans (HS.out.1.mono HB1.out.size))
  clear HPE HB1 HS
  go_wp2_with fail
  refine HP1.out.mono ?_
  rintro e w3 ⟨rfl, HB3⟩
  clear HP1
  have HF : Hid (Below w.heap.size w (w3.alloc (.cells #[.slice none 0 0, .int .i64 0] 58))) := Lib.hid ((HB2.out.trans (HB3.out.mono HB2.out.size)).trans (((Below.refl _ w3).alloc (Nat.le_refl _) _).mono (Nat.le_trans HB2.out.size HB3.out.size)))
  clear HB2 HB3
  go_wp2
  first | exact ⟨rfl, HF.out⟩ | (go_ret; exact ⟨rfl, HF.out⟩)

set_option maxHeartbeats 2000000 in
set_option maxRecDepth 100000 in
theorem walk_arg3 {w : World} (a : Option Addr) (len cap : Nat) {wss : List (List Wr)} (hW : WwsCame w a len wss) (hle : len ≤ 30) (lw mark : Int) (p : ByteArray) (hp : p.size ≤ 500) (most : Int) (k : Nat) (hk : k ≤ len) (hkeq : ∀ c0 : Nat, lw % 256 = (c0 : Int) → (c0 : Int) % ((len : Int) + 1) = (k : Int)) (h : ¬ most < 1 ∧ ¬ 100 < most ∧ 400 < p.size) :
    Calls Try.prog 7 #[.slice a len cap, .int .i64 lw, .int .i64 mark, .string p, .int .i64 most] w fun e W' => e = .returned (.bool true) ∧ Below w.heap.size w W' := by
  have hlen := hW.1
  have hI30 : ((30 : Int) < (len : Int)) = False := eq_false (by omega)
  have hI500 : ((500 : Int) < (p.size : Int)) = False := eq_false (by omega)
  obtain ⟨c0, hc0⟩ : ∃ c0 : Nat, lw % 256 = (c0 : Int) := ⟨(lw % 256).toNat, by omega⟩
  have hm := and_255 lw
  rw [hc0] at hm
  have HK := Lib.hid (hkeq c0 hc0)
  have hlz : (((len : Int) + 1) == 0) = false := by rw [beq_eq_false_iff_ne]; omega
  have HMD := Lib.hid (fun (w1 : World) (hb : Below w.heap.size w w1) => made17_any cap hW hle w1 hb k hk)
  have hcl : (listC 1 wss).length = len := by rw [listC_len, hlen]
  obtain ⟨hsg, hlow, hcms⟩ := made_sg wss (by omega) k (by omega)
  have hsq := seqs_list wss
  have h12 := listC_12 1 wss
  obtain ⟨M, hM⟩ : ∃ M, M = (madeM 0 [] (listC 1 wss)).vacuum k := ⟨_, rfl⟩
  obtain ⟨cs, hcs⟩ : ∃ cs, cs = listC 1 wss := ⟨_, rfl⟩
  rw [← hM] at HMD hsg hlow hcms
  rw [← hcs] at HMD hcl hcms hsq h12
  have hlast : (M.last : Int) = (len : Int) := by
    have : M.last = M.low + M.cms.length := rfl
    rw [this, hlow, hcms, List.length_drop, hcl]
    omega
  rw [hlen] at hsg
  have HPE : Hid (∀ w2 s lv, MdS w w2 s M lv cs → Calls Try.prog 37 #[.pointer (some ⟨s, 0, none⟩), .int .i64 mark, .string p, .int .i64 most] w2 fun e W' => e = .returned (.tuple #[.agg #[.slice none 0 0, .int .i64 0], .int .i64 1]) ∧ Hid (Below w2.heap.size w2 W')) := Lib.hid fun w2 s lv hS => by
    refine (poll_arg _ mark p most w2 (.inr (.inr h))).mono ?_
    rintro e W' ⟨rfl, hb⟩
    exact ⟨rfl, Lib.hid hb⟩
  have q1 : (most < 1) = False := eq_false h.1
  have q2 : ((100 : Int) < most) = False := eq_false h.2.1
  have q3 : (400 : Int) < (p.size : Int) := by omega
  clear hW hkeq hc0 hcl hsg hlow hcms hsq h12 hM hcs hlast hlen hk hp h
  go_enter Try.func7, Try.ntmps7
  go_wp2_with fail
  refine (head17_any _).mono ?_
  rintro e w1 ⟨rfl, hb1⟩
  have HMD1 := Lib.hid (And.intro hb1 (HMD.out w1 hb1))
  clear hb1 HMD
  go_wp2_with fail
  rw [HK.out]
  clear HK hlz hm
  refine HMD1.out.2.mono ?_
  rintro e w2 ⟨s, la, lc, rfl, HS⟩
  have HB1 := Lib.hid HMD1.out.1
  clear HMD1
  have HP1 := Lib.hid (HPE.out w2 s _ (by obtain ⟨g1, g2, g3, g4⟩ := HS.out; exact ⟨HB1.out.trans (g1.mono HB1.out.size), g2, (by obtain ⟨⟨P, k1, k2⟩, k3, k4⟩ := g3; exact ⟨⟨P, k1, fun q hq => ⟨Nat.le_trans HB1.out.size (k2 q hq).1, (k2 q hq).2⟩⟩, k3, Nat.le_trans HB1.out.size k4⟩), g4⟩))
  have HB2 := Lib.hid (HB1.out.trans (HS.out.1.mono HB1.out.size))
  clear HPE HB1 HS
  go_wp2_with fail
  refine HP1.out.mono ?_
  rintro e w3 ⟨rfl, HB3⟩
  clear HP1
  have HF : Hid (Below w.heap.size w (w3.alloc (.cells #[.slice none 0 0, .int .i64 0] 58))) := Lib.hid ((HB2.out.trans (HB3.out.mono HB2.out.size)).trans (((Below.refl _ w3).alloc (Nat.le_refl _) _).mono (Nat.le_trans HB2.out.size HB3.out.size)))
  clear HB2 HB3
  go_wp2
  first | exact ⟨rfl, HF.out⟩ | (go_ret; exact ⟨rfl, HF.out⟩)

set_option maxHeartbeats 2000000 in
set_option maxRecDepth 100000 in
theorem walk_old {w : World} (a : Option Addr) (len cap : Nat) {wss : List (List Wr)} (hW : WwsCame w a len wss) (hle : len ≤ 30) (lw mark : Int) (p : ByteArray) (hp : p.size ≤ 500) (most : Int) (k : Nat) (hk : k ≤ len) (hkeq : ∀ c0 : Nat, lw % 256 = (c0 : Int) → (c0 : Int) % ((len : Int) + 1) = (k : Int)) (h : ¬ most < 1 ∧ ¬ 100 < most ∧ ¬ 400 < p.size ∧ mark < (k : Int)) :
    Calls Try.prog 7 #[.slice a len cap, .int .i64 lw, .int .i64 mark, .string p, .int .i64 most] w fun e W' => e = .returned (.bool true) ∧ Below w.heap.size w W' := by
  have hlen := hW.1
  have hI30 : ((30 : Int) < (len : Int)) = False := eq_false (by omega)
  have hI500 : ((500 : Int) < (p.size : Int)) = False := eq_false (by omega)
  obtain ⟨c0, hc0⟩ : ∃ c0 : Nat, lw % 256 = (c0 : Int) := ⟨(lw % 256).toNat, by omega⟩
  have hm := and_255 lw
  rw [hc0] at hm
  have HK := Lib.hid (hkeq c0 hc0)
  have hlz : (((len : Int) + 1) == 0) = false := by rw [beq_eq_false_iff_ne]; omega
  have HMD := Lib.hid (fun (w1 : World) (hb : Below w.heap.size w w1) => made17_any cap hW hle w1 hb k hk)
  have hcl : (listC 1 wss).length = len := by rw [listC_len, hlen]
  obtain ⟨hsg, hlow, hcms⟩ := made_sg wss (by omega) k (by omega)
  have hsq := seqs_list wss
  have h12 := listC_12 1 wss
  obtain ⟨M, hM⟩ : ∃ M, M = (madeM 0 [] (listC 1 wss)).vacuum k := ⟨_, rfl⟩
  obtain ⟨cs, hcs⟩ : ∃ cs, cs = listC 1 wss := ⟨_, rfl⟩
  rw [← hM] at HMD hsg hlow hcms
  rw [← hcs] at HMD hcl hcms hsq h12
  have hlast : (M.last : Int) = (len : Int) := by
    have : M.last = M.low + M.cms.length := rfl
    rw [this, hlow, hcms, List.length_drop, hcl]
    omega
  rw [hlen] at hsg
  have HPE : Hid (∀ w2 s lv, MdS w w2 s M lv cs → Calls Try.prog 37 #[.pointer (some ⟨s, 0, none⟩), .int .i64 mark, .string p, .int .i64 most] w2 fun e W' => e = .returned (.tuple #[.agg #[.slice none 0 0, .int .i64 0], .int .i64 12]) ∧ Hid (Below w2.heap.size w2 W')) := Lib.hid fun w2 s lv hS => by
    obtain ⟨P, hP⟩ := hS.store
    refine (poll_err hP hsg (by omega) mark p (by omega) most (by omega) (by omega) 12 (.inl ⟨rfl, by rw [hlow]; exact h.2.2.2⟩)).mono ?_
    rintro e W' ⟨rfl, hb⟩
    exact ⟨rfl, Lib.hid hb⟩
  have q1 : (most < 1) = False := eq_false h.1
  have q2 : ((100 : Int) < most) = False := eq_false h.2.1
  have q3 : ((400 : Int) < (p.size : Int)) = False := eq_false (by omega)
  have q4 : mark < (k : Int) := h.2.2.2
  clear hW hkeq hc0 hcl hsg hlow hcms hsq h12 hM hcs hlast hlen hk hp h
  go_enter Try.func7, Try.ntmps7
  go_wp2_with fail
  refine (head17_any _).mono ?_
  rintro e w1 ⟨rfl, hb1⟩
  have HMD1 := Lib.hid (And.intro hb1 (HMD.out w1 hb1))
  clear hb1 HMD
  go_wp2_with fail
  rw [HK.out]
  clear HK hlz hm
  refine HMD1.out.2.mono ?_
  rintro e w2 ⟨s, la, lc, rfl, HS⟩
  have HB1 := Lib.hid HMD1.out.1
  clear HMD1
  have HP1 := Lib.hid (HPE.out w2 s _ (by obtain ⟨g1, g2, g3, g4⟩ := HS.out; exact ⟨HB1.out.trans (g1.mono HB1.out.size), g2, (by obtain ⟨⟨P, k1, k2⟩, k3, k4⟩ := g3; exact ⟨⟨P, k1, fun q hq => ⟨Nat.le_trans HB1.out.size (k2 q hq).1, (k2 q hq).2⟩⟩, k3, Nat.le_trans HB1.out.size k4⟩), g4⟩))
  have HB2 := Lib.hid (HB1.out.trans (HS.out.1.mono HB1.out.size))
  clear HPE HB1 HS
  go_wp2_with fail
  refine HP1.out.mono ?_
  rintro e w3 ⟨rfl, HB3⟩
  clear HP1
  have HF : Hid (Below w.heap.size w (w3.alloc (.cells #[.slice none 0 0, .int .i64 0] 58))) := Lib.hid ((HB2.out.trans (HB3.out.mono HB2.out.size)).trans (((Below.refl _ w3).alloc (Nat.le_refl _) _).mono (Nat.le_trans HB2.out.size HB3.out.size)))
  clear HB2 HB3
  go_wp2
  first | exact ⟨rfl, HF.out⟩ | (go_ret; exact ⟨rfl, HF.out⟩)

set_option maxHeartbeats 2000000 in
set_option maxRecDepth 100000 in
theorem walk_far {w : World} (a : Option Addr) (len cap : Nat) {wss : List (List Wr)} (hW : WwsCame w a len wss) (hle : len ≤ 30) (lw mark : Int) (p : ByteArray) (hp : p.size ≤ 500) (most : Int) (k : Nat) (hk : k ≤ len) (hkeq : ∀ c0 : Nat, lw % 256 = (c0 : Int) → (c0 : Int) % ((len : Int) + 1) = (k : Int)) (h : ¬ most < 1 ∧ ¬ 100 < most ∧ ¬ 400 < p.size ∧ ¬ mark < (k : Int) ∧ (len : Int) < mark) :
    Calls Try.prog 7 #[.slice a len cap, .int .i64 lw, .int .i64 mark, .string p, .int .i64 most] w fun e W' => e = .returned (.bool true) ∧ Below w.heap.size w W' := by
  have hlen := hW.1
  have hI30 : ((30 : Int) < (len : Int)) = False := eq_false (by omega)
  have hI500 : ((500 : Int) < (p.size : Int)) = False := eq_false (by omega)
  obtain ⟨c0, hc0⟩ : ∃ c0 : Nat, lw % 256 = (c0 : Int) := ⟨(lw % 256).toNat, by omega⟩
  have hm := and_255 lw
  rw [hc0] at hm
  have HK := Lib.hid (hkeq c0 hc0)
  have hlz : (((len : Int) + 1) == 0) = false := by rw [beq_eq_false_iff_ne]; omega
  have HMD := Lib.hid (fun (w1 : World) (hb : Below w.heap.size w w1) => made17_any cap hW hle w1 hb k hk)
  have hcl : (listC 1 wss).length = len := by rw [listC_len, hlen]
  obtain ⟨hsg, hlow, hcms⟩ := made_sg wss (by omega) k (by omega)
  have hsq := seqs_list wss
  have h12 := listC_12 1 wss
  obtain ⟨M, hM⟩ : ∃ M, M = (madeM 0 [] (listC 1 wss)).vacuum k := ⟨_, rfl⟩
  obtain ⟨cs, hcs⟩ : ∃ cs, cs = listC 1 wss := ⟨_, rfl⟩
  rw [← hM] at HMD hsg hlow hcms
  rw [← hcs] at HMD hcl hcms hsq h12
  have hlast : (M.last : Int) = (len : Int) := by
    have : M.last = M.low + M.cms.length := rfl
    rw [this, hlow, hcms, List.length_drop, hcl]
    omega
  rw [hlen] at hsg
  have HPE : Hid (∀ w2 s lv, MdS w w2 s M lv cs → Calls Try.prog 37 #[.pointer (some ⟨s, 0, none⟩), .int .i64 mark, .string p, .int .i64 most] w2 fun e W' => e = .returned (.tuple #[.agg #[.slice none 0 0, .int .i64 0], .int .i64 13]) ∧ Hid (Below w2.heap.size w2 W')) := Lib.hid fun w2 s lv hS => by
    obtain ⟨P, hP⟩ := hS.store
    refine (poll_err hP hsg (by omega) mark p (by omega) most (by omega) (by omega) 13 (.inr ⟨rfl, by rw [hlast]; exact h.2.2.2.2, by rw [hlow]; omega⟩)).mono ?_
    rintro e W' ⟨rfl, hb⟩
    exact ⟨rfl, Lib.hid hb⟩
  have q1 : (most < 1) = False := eq_false h.1
  have q2 : ((100 : Int) < most) = False := eq_false h.2.1
  have q3 : ((400 : Int) < (p.size : Int)) = False := eq_false (by omega)
  have q4 : (mark < (k : Int)) = False := eq_false h.2.2.2.1
  have q5 : (len : Int) < mark := h.2.2.2.2
  clear hW hkeq hc0 hcl hsg hlow hcms hsq h12 hM hcs hlast hlen hk hp h
  go_enter Try.func7, Try.ntmps7
  go_wp2_with fail
  refine (head17_any _).mono ?_
  rintro e w1 ⟨rfl, hb1⟩
  have HMD1 := Lib.hid (And.intro hb1 (HMD.out w1 hb1))
  clear hb1 HMD
  go_wp2_with fail
  rw [HK.out]
  clear HK hlz hm
  refine HMD1.out.2.mono ?_
  rintro e w2 ⟨s, la, lc, rfl, HS⟩
  have HB1 := Lib.hid HMD1.out.1
  clear HMD1
  have HP1 := Lib.hid (HPE.out w2 s _ (by obtain ⟨g1, g2, g3, g4⟩ := HS.out; exact ⟨HB1.out.trans (g1.mono HB1.out.size), g2, (by obtain ⟨⟨P, k1, k2⟩, k3, k4⟩ := g3; exact ⟨⟨P, k1, fun q hq => ⟨Nat.le_trans HB1.out.size (k2 q hq).1, (k2 q hq).2⟩⟩, k3, Nat.le_trans HB1.out.size k4⟩), g4⟩))
  have HB2 := Lib.hid (HB1.out.trans (HS.out.1.mono HB1.out.size))
  clear HPE HB1 HS
  go_wp2_with fail
  refine HP1.out.mono ?_
  rintro e w3 ⟨rfl, HB3⟩
  clear HP1
  have HF : Hid (Below w.heap.size w (w3.alloc (.cells #[.slice none 0 0, .int .i64 0] 58))) := Lib.hid ((HB2.out.trans (HB3.out.mono HB2.out.size)).trans (((Below.refl _ w3).alloc (Nat.le_refl _) _).mono (Nat.le_trans HB2.out.size HB3.out.size)))
  clear HB2 HB3
  go_wp2
  first | exact ⟨rfl, HF.out⟩ | (go_ret; exact ⟨rfl, HF.out⟩)

set_option maxHeartbeats 4000000 in
set_option maxRecDepth 100000 in
theorem walk_main {w : World} (a : Option Addr) (len cap : Nat) {wss : List (List Wr)} (hW : WwsCame w a len wss) (hle : len ≤ 30) (lw : Int) (m : Nat) (p : ByteArray) (hp : p.size ≤ 500) (most : Int) (k : Nat) (hk : k ≤ len) (hkeq : ∀ c0 : Nat, lw % 256 = (c0 : Int) → (c0 : Int) % ((len : Int) + 1) = (k : Int)) (h : ¬ most < 1 ∧ ¬ 100 < most ∧ ¬ 400 < p.size ∧ ¬ (m : Int) < (k : Int) ∧ ¬ (len : Int) < (m : Int)) :
    Calls Try.prog 7 #[.slice a len cap, .int .i64 lw, .int .i64 (m : Int), .string p, .int .i64 most] w fun e W' => e = .returned (.bool true) ∧ Below w.heap.size w W' := by
  have hlen := hW.1
  have hI30 : ((30 : Int) < (len : Int)) = False := eq_false (by omega)
  have hI500 : ((500 : Int) < (p.size : Int)) = False := eq_false (by omega)
  obtain ⟨c0, hc0⟩ : ∃ c0 : Nat, lw % 256 = (c0 : Int) := ⟨(lw % 256).toNat, by omega⟩
  have hm := and_255 lw
  rw [hc0] at hm
  have HK := Lib.hid (hkeq c0 hc0)
  have hlz : (((len : Int) + 1) == 0) = false := by rw [beq_eq_false_iff_ne]; omega
  have HMD := Lib.hid (fun (w1 : World) (hb : Below w.heap.size w w1) => made17_any cap hW hle w1 hb k hk)
  have hcl : (listC 1 wss).length = len := by rw [listC_len, hlen]
  obtain ⟨hsg, hlow, hcms⟩ := made_sg wss (by omega) k (by omega)
  have hsq := seqs_list wss
  have h12 := listC_12 1 wss
  obtain ⟨M, hM⟩ : ∃ M, M = (madeM 0 [] (listC 1 wss)).vacuum k := ⟨_, rfl⟩
  obtain ⟨cs, hcs⟩ : ∃ cs, cs = listC 1 wss := ⟨_, rfl⟩
  rw [← hM] at HMD hsg hlow hcms
  rw [← hcs] at HMD hcl hcms hsq h12
  have hlast : (M.last : Int) = (len : Int) := by
    have : M.last = M.low + M.cms.length := rfl
    rw [this, hlow, hcms, List.length_drop, hcl]
    omega
  rw [hlen] at hsg
  obtain ⟨AL, hAL⟩ : ∃ AL, AL = told p (cs.drop m) := ⟨_, rfl⟩
  have hAL12 : ∀ c ∈ AL, c.ws.length ≤ 12 := fun c hc => by
    rw [hAL] at hc
    exact told_ws (fun c hc => h12 c (List.mem_of_mem_drop hc)) c hc
  have hALl : AL.length ≤ 30 := by
    rw [hAL]
    have := told_len p (cs.drop m)
    rw [List.length_drop, hcl] at this
    omega
  obtain ⟨hm1, hm2, hm3, hm4, hm5⟩ := h
  have HPO : Hid (∀ w2 s lv, MdS w w2 s M lv cs → Calls Try.prog 37 #[.pointer (some ⟨s, 0, none⟩), .int .i64 (m : Int), .string p, .int .i64 most] w2 fun e W' => ∃ n oa oc mk, e = .returned (.tuple #[.agg #[.slice oa n oc, .int .i64 ((mk : Nat) : Int)], .int .i64 0]) ∧ Hid (PlO w2 W' cs m p most n oa oc mk)) := Lib.hid fun w2 s lv hS => by
    obtain ⟨P, hP⟩ := hS.store
    exact poll_gen hP hsg (by omega) hsq (by rw [hlow, hcl]; omega) (by rw [hcms, hlow]) m (by omega) (by rw [hcl]; omega) p (by omega) most (by omega) (by omega)
  have HON : Hid (∀ w3 da dc, CIs w3 da (cs.drop m) → Calls Try.prog 38 #[.slice da (len - m) dc, .string p] w3 (OnP w3 p (cs.drop m))) := Lib.hid fun w3 da dc hd =>
    only_any hd (by rw [List.length_drop, hcl]) (by omega) (fun c hc => by have := h12 c (List.mem_of_mem_drop hc); omega) p
  have HCD := Lib.hid (fun (w' : World) (la da : Option Addr) (lc : Nat) (hc : CIs w' la cs) (hl : len ≤ lc) (hda : (la = none ∧ da = none) ∨ ∃ g o o', la = some ⟨g, o, none⟩ ∧ da = some ⟨g, o', none⟩ ∧ (m < lc → o' = o + m * 3) ∧ (lc = m → o' ≤ o + m * 3)) => cis_drop hc (by rw [hcl]; exact hl) hda)
  have q1 : (most < 1) = False := eq_false hm1
  have q2 : ((100 : Int) < most) = False := eq_false hm2
  have q3 : ((400 : Int) < (p.size : Int)) = False := eq_false (by omega)
  have q4 : ((m : Int) < (k : Int)) = False := eq_false hm4
  have q5 : ((len : Int) < (m : Int)) = False := eq_false hm5
  have hml : m ≤ len := by omega
  have HAL := Lib.hid (And.intro hAL (And.intro hAL12 hALl))
  have HCL := Lib.hid hcl
  have HM15 := Lib.hid (And.intro hm1 hm2)
  clear hW hkeq hc0 hcl hsg hlow hcms hsq h12 hM hcs hlast hlen hk hp hm1 hm2 hm3 hm4 hm5 hAL hAL12 hALl
  go_enter Try.func7, Try.ntmps7
  go_wp2_with fail
  refine (head17_any _).mono ?_
  rintro e w1 ⟨rfl, hb1⟩
  have HMD1 := Lib.hid (And.intro hb1 (HMD.out w1 hb1))
  clear hb1 HMD
  go_wp2_with fail
  rw [HK.out]
  clear HK hlz hm
  refine HMD1.out.2.mono ?_
  rintro e w2 ⟨s, la, lc, rfl, HS⟩
  have HB1 := Lib.hid HMD1.out.1
  clear HMD1
  have HP1 := Lib.hid (HPO.out w2 s _ (by obtain ⟨g1, g2, g3, g4⟩ := HS.out; exact ⟨HB1.out.trans (g1.mono HB1.out.size), g2, (by obtain ⟨⟨P, k1, k2⟩, k3, k4⟩ := g3; exact ⟨⟨P, k1, fun q hq => ⟨Nat.le_trans HB1.out.size (k2 q hq).1, (k2 q hq).2⟩⟩, k3, Nat.le_trans HB1.out.size k4⟩), g4⟩))
  have HB2 := Lib.hid (And.intro (HB1.out.trans (HS.out.1.mono HB1.out.size)) (MdS.list HS.out))
  have y1 := HB2.out.2.2.2
  obtain ⟨_, da, hsl, hda⟩ := cm_slice la len lc m y1.1 y1.2.1 hml y1.2.2.1 y1.2.2.2
  have HDA := Lib.hid (And.intro hda y1.2.2.1)
  clear HPO HB1 HS y1 hda
  go_wp2_with fail
  refine HP1.out.mono ?_
  rintro e w3 ⟨n, oa, oc, mk, rfl, HPL⟩
  clear HP1
  have HB4 : Hid (Below w.heap.size w (w3.alloc (.cells #[.slice oa n oc, .int .i64 (mk : Int)] 58)) ∧ Below w3.heap.size w3 (w3.alloc (.cells #[.slice oa n oc, .int .i64 (mk : Int)] 58)) ∧ Box (w3.alloc (.cells #[.slice oa n oc, .int .i64 (mk : Int)] 58)) w3.heap.size 58 #[.slice oa n oc, .int .i64 (mk : Int)] ∧ CIs (w3.alloc (.cells #[.slice oa n oc, .int .i64 (mk : Int)] 58)) da (cs.drop m)) := Lib.hid (by
    have h1 : Below w.heap.size w w3 := HB2.out.1.trans (HPL.out.low.mono HB2.out.1.size)
    have h2 : Below w3.heap.size w3 (w3.alloc (.cells #[.slice oa n oc, .int .i64 (mk : Int)] 58)) := (Below.refl _ w3).alloc (Nat.le_refl _) _
    exact ⟨h1.trans (h2.mono h1.size), h2, Box.new w3 58 _, HCD.out _ la da lc ((HB2.out.2.2.1.below HPL.out.low).below h2) HDA.out.2 HDA.out.1⟩)
  obtain ⟨w4, hw4⟩ : ∃ w4, w4 = (w3.alloc (.cells #[.slice oa n oc, .int .i64 (mk : Int)] 58)) := ⟨_, rfl⟩
  obtain ⟨bb, hbb⟩ : ∃ bb, bb = w3.heap.size := ⟨_, rfl⟩
  rw [← hw4] at HB4
  have HW4 := Lib.hid hw4
  have HBB := Lib.hid hbb
  clear HDA HCD hw4 hbb
  go_upto_region 19 with fail
  go_wp2_with fail
  rw [← HW4.out, ← HBB.out]
  refine (HON.out w4 da _ HB4.out.2.2.2).mono ?_
  rintro e w5 ⟨an, aa, ac, rfl, HO⟩
  have HB5 : Hid (Below w.heap.size w w5 ∧ Box w5 bb 58 #[.slice oa n oc, .int .i64 (mk : Int)] ∧ CIs w5 oa (AL.take n) ∧ CIs w5 aa AL ∧ an = AL.length ∧ (n : Int) = min most (an : Int) ∧ (AL.take n).length = n ∧ ((n : Int) = most → ∃ c, AL[n - 1]? = some c ∧ c.seq = (mk : Int)) ∧ ((n : Int) ≠ most → mk = len)) := Lib.hid (by
    obtain ⟨o1, o2, o3⟩ := HO.out
    obtain ⟨b1, b2, b3, b4⟩ := HB4.out
    obtain ⟨p1, p2, p3, p4, p5, p6, p7, p8, p9, p10⟩ := HPL.out
    rw [HAL.out.1]
    have h45 := o3
    have p2' : CmsOwn w2.heap.size w3 (.slice oa ((told p (cs.drop m)).take n).length oc) ((told p (cs.drop m)).take n) := by rw [p3]; exact p2
    have o2' : CmsOwn w4.heap.size w5 (.slice aa (told p (cs.drop m)).length ac) (told p (cs.drop m)) := by rw [← o1]; exact o2
    refine ⟨b1.trans (h45.mono b1.size), ?_, (p2'.is.below b2).below h45, o2'.is, o1, by rw [o1]; exact p4, p3, p8, fun h => by rw [p9 h, HCL.out]⟩
    rw [HBB.out]
    exact (h45.block _ b3.lt).trans b3)
  have hmin := HB5.out.2.2.2.2.2.1.symm
  have hn30 : n ≤ 30 := by have := HAL.out.2.2; have := HB5.out.2.2.2.2.1; omega
  have t0 := HB5.out.2.1.cell 0
  simp only [List.getElem?_toArray, List.getElem?_cons_zero] at t0
  clear HON HB4 HO HPL HB2 hsl
  have hmin2 := Lib.hid hmin
  go_wp2_with fail
  clear t0
  go_loopw [18] (fun iv wr => ∃ i : Nat, i ≤ n ∧ iv = .int .i64 (i : Int) ∧ Hid (Below w5.heap.size w5 wr)) (fun iv _ => n - (intOf iv).toNat)
  case atStart => exact ⟨0, Nat.zero_le _, rfl, Lib.hid (Below.refl _ _)⟩
  case round =>
    obtain ⟨i, hi, rfl, hst⟩ := hrel
    have hbx : Box wr bb 58 #[.slice oa n oc, .int .i64 (mk : Int)] := (hst.out.block _ HB5.out.2.1.lt).trans HB5.out.2.1
    have t0 := hbx.cell 0
    have t1 := hbx.cell 1
    simp only [List.getElem?_toArray, List.getElem?_cons_zero, List.getElem?_cons_succ] at t0 t1
    by_cases hil : i < n
    · have hiI : (i : Int) < (n : Int) := by omega
      have hA : i < AL.length := by have := HB5.out.2.2.2.2.1; have := HB5.out.2.2.2.2.2.1; omega
      have hanI : (i : Int) < (an : Int) := by have := HB5.out.2.2.2.2.1; omega
      obtain ⟨b1, o1, wa, wc, rfl, hlt1, m0, m1, m2, hw1⟩ := cis_get (HB5.out.2.2.1.below hst.out) (z := i) (by rw [HB5.out.2.2.2.2.2.2.1]; exact hil)
      obtain ⟨b2, o2, va, vc, rfl, hlt2, n0, n1, n2, hw2⟩ := cis_get (HB5.out.2.2.2.1.below hst.out) (z := i) hA
      rw [List.getElem_take] at m0 m1 m2 hw1
      have hc12 := HAL.out.2.1 _ (List.getElem_mem hA)
      obtain ⟨c, hc⟩ : ∃ c, c = AL[i] := ⟨_, rfl⟩
      rw [← hc] at m0 m1 m2 hw1 n0 n1 n2 hw2 hc12
      clear hc
      have HS := Lib.hid (same_one (wc := wc) (vc := vc) c hw1 hw2 (by omega))
      obtain ⟨sq, at_, ws⟩ := c
      obtain ⟨wl, hwl⟩ : ∃ wl, wl = ws.length := ⟨_, rfl⟩
      simp only at m0 m1 m2 n0 n1 n2 HS
      rw [← hwl] at m2 n2 HS
      have HR : Hid (∀ w2, Below wr.drew.heap.size wr.drew w2 → Below w5.heap.size w5 w2) := Lib.hid fun w2 hb => hst.out.trans (((Below.refl _ wr).drew.trans (show Below wr.heap.size wr.drew w2 from hb)).mono hst.out.size)
      clear hw1 hw2 hc12 hwl hbx hst t1 hA
      go_wp2_with fail
      go_region_law (go_simp; go_at_call 39; refine (HS.out _ (Below.refl _ _).drew).mono ?_; rintro e w6 ⟨rfl, hb6⟩)
      all_goals
        have HN := Lib.hid (HR.out _ hb6)
        clear HR HS hb6
        go_wp2
        go_roundw
        case rel => exact ⟨i + 1, by omega, by go_num, HN⟩
        case measure => simp [intOf]; omega
    · obtain rfl : i = n := by omega
      have hiI : ¬ (i : Int) < (i : Int) := by omega
      have HF := Lib.hid (HB5.out.1.trans (hst.out.mono HB5.out.1.size))
      by_cases hmo : (i : Int) = most
      · have e1 : ((i : Int) == most) = true := by rw [beq_iff_eq]; exact hmo
        obtain ⟨c, hc1, hc2⟩ := HB5.out.2.2.2.2.2.2.2.1 hmo
        obtain ⟨hcl, hc3⟩ := List.getElem?_eq_some_iff.1 hc1
        obtain ⟨b2, o2, va, vc, rfl, hlt2, n0, n1, n2, hw2⟩ := cis_get (HB5.out.2.2.2.1.below hst.out) (z := i - 1) hcl
        rw [hc3, hc2] at n0
        have hi1 : 1 ≤ i := by have := HM15.out.1; omega
        have hw1 : IntKind.i64.wrap ((i : Int) - 1) = ((i - 1 : Nat) : Int) := by rw [IntKind.wrap_i64]; omega
        have hx1 : ((i - 1 : Nat) : Int) < (an : Int) := by have := HB5.out.2.2.2.2.1; omega
        clear hst hbx hmin hw2 hc1 hc2 hc3
        subst hmo
        go_wp2_with fail
        go_region_law (fail)
        all_goals
          go_wp2
          first | exact ⟨rfl, HF.out⟩ | (go_ret; exact ⟨rfl, HF.out⟩) | exact ⟨rfl, HF.out.drew⟩ | (go_ret; exact ⟨rfl, HF.out.drew⟩)
      · have e1 : ((i : Int) == most) = false := by rw [beq_eq_false_iff_ne]; exact hmo
        have e2 : ((mk : Int) == (len : Int)) = true := by rw [beq_iff_eq, HB5.out.2.2.2.2.2.2.2.2 hmo]
        clear hst hbx hmin
        go_wp2
        first | exact ⟨rfl, HF.out⟩ | (go_ret; exact ⟨rfl, HF.out⟩)

theorem walk {w : World} (a : Option Addr) (len cap : Nat) (hW : ∃ wss, WwsCame w a len wss) (lw : Int) (wl : (Lit.int .i64 lw).wf = true) (mark : Int) (wm : (Lit.int .i64 mark).wf = true) (p : ByteArray) (wp : p.size ≤ maxLen) (most : Int) (wmo : (Lit.int .i64 most).wf = true) :
    Calls Try.prog 7 #[.slice a len cap, .int .i64 lw, .int .i64 mark, .string p, .int .i64 most] w fun e W' => e = .returned (.bool true) ∧ Below w.heap.size w W' := by
  by_cases h30 : 30 < len
  · exact walk_out1 a len cap lw mark p most h30
  by_cases h500 : 500 < p.size
  · exact walk_out2 a len cap lw mark p most ⟨by omega, h500⟩
  obtain ⟨wss, hW⟩ := hW
  obtain ⟨k, hk, hkeq⟩ : ∃ k : Nat, k ≤ len ∧ ∀ c0 : Nat, lw % 256 = (c0 : Int) → (c0 : Int) % ((len : Int) + 1) = (k : Int) := by
    refine ⟨((lw % 256).toNat) % (len + 1), Nat.le_of_lt_succ (Nat.mod_lt _ (by omega)), fun c0 h => ?_⟩
    have : (lw % 256).toNat = c0 := by omega
    rw [this]
    simp
  by_cases h1 : most < 1
  · exact walk_arg1 a len cap hW (by omega) lw mark p (by omega) most k hk hkeq h1
  by_cases h2 : 100 < most
  · exact walk_arg2 a len cap hW (by omega) lw mark p (by omega) most k hk hkeq ⟨h1, h2⟩
  by_cases h3 : 400 < p.size
  · exact walk_arg3 a len cap hW (by omega) lw mark p (by omega) most k hk hkeq ⟨h1, h2, h3⟩
  by_cases h4 : mark < (k : Int)
  · exact walk_old a len cap hW (by omega) lw mark p (by omega) most k hk hkeq ⟨h1, h2, h3, h4⟩
  by_cases h5 : (len : Int) < mark
  · exact walk_far a len cap hW (by omega) lw mark p (by omega) most k hk hkeq ⟨h1, h2, h3, h4, h5⟩
  obtain ⟨m, rfl⟩ : ∃ m : Nat, mark = (m : Int) := ⟨mark.toNat, by omega⟩
  exact walk_main a len cap hW (by omega) lw m p (by omega) most k hk hkeq ⟨h1, h2, h3, h4, h5⟩

end Go.Proofs.Ytookplnegfheeaa.watchPolls
