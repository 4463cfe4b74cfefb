/-
  octet.Num lays a number behind what a slice of the call's own holds: how many bytes it has, and these.
-/
import Derived.Test.YtcebnoapgceodaaOwn
import Derived.Test.YtcebnoapgceodaaShelf
import Derived.Deep.DeepMust
namespace Go.Proofs.Ytcebnoapgceodaa
open Go.RowKit

theorem infoByte : (Try.prog.info? 5).map (fun i => (i.zero, i.size, i.bytes)) = some (some (.int .u8 0), 1, 1) := by kernel_rfl

theorem len_any (m : Nat) (w : World) (h : m ≤ 9223372036854775807) : Calls Try.prog 109 #[.int .u64 m] w fun e w' => e = .returned (.int .i64 (Lib.bitLen m)) ∧ w = w' :=
  (Try.bits_Len (m : Int) w (by omega) (by omega)).mono fun _ _ ⟨a, b⟩ => ⟨a, b.symm⟩

theorem byte_shr (m e : Nat) : UInt8.ofNat (((m : Int) / 2 ^ (8 * e) % 256).toNat) = UInt8.ofNat (m / 256 ^ e) := by
  have h : ((m : Int) / 2 ^ (8 * e) % 256) = ((m / 256 ^ e % 256 : Nat) : Int) := by
    rw [pow256]; simp
  rw [h, Int.toNat_natCast]
  apply UInt8.toNat_inj.1
  simp

def NumPost (B : Nat) (v : Value) (l : List UInt8) (m : Nat) (w : World) (e : Ending) (w' : World) : Prop :=
  ∃ v', e = .returned v' ∧ Bs 5 B w' v' (l ++ octN m) ∧ Up w v w' v'

set_option maxHeartbeats 400000 in
theorem num_nat (B : Nat) (v : Value) (l : List UInt8) (m : Nat) (hm : m ≤ 9223372036854775807) (w : World) (hl : l.length < 140737488355000) (hB : B ≤ w.heap.size) (hown : Bs 5 B w v l) :
    Calls Try.prog 61 #[v, .int .i64 m] w (NumPost B v l m w) := by
  have h8 := osz_le8 m (by omega)
  have hlen := len_any m
  obtain ⟨b, hb⟩ : ∃ b, b = Lib.bitLen m := ⟨_, rfl⟩
  have hsz : Hid (osz m = (b + 7) / 8) := by rw [hb]; rfl
  rw [← hb] at hlen
  have hb64 : b ≤ 64 := by rw [hb]; exact Lib.bitLen_le m 64 (by omega) (by omega)
  clear hb
  go_enter Try.func61, Try.ntmps61
  go_wp2_with (first
    | (go_at_call 109; refine (hlen _ hm).mono ?_; rintro e w' ⟨rfl, rfl⟩)
    | (at_builtin; refine wpList_app1 _ rfl (.tmp 14) (.tmp 17) 68 rfl 5 B Try.underlying68 infoByte _ l rfl hown _ _ rfl (by omega) (by omega) (by omega) hB ?_; intro v1 w1 hown1 hup1))
  have hB1 := hup1.1.size
  go_loopw [0, 20] (fun x c wr => ∃ k : Nat, k ≤ osz m ∧ c = .int .i64 k ∧ Bs 5 B wr x (l ++ [UInt8.ofNat (osz m)] ++ (be (osz m) m).take k) ∧ Up w v wr x) (fun _ c _ => osz m - (intOf c).toNat)
  case atStart =>
    refine ⟨0, Nat.zero_le _, rfl, ?_, hup1⟩
    have e : (((b : Int) + 7) / 8).toNat = (b + 7) / 8 := by omega
    rw [e] at hown1
    rw [hsz.out]
    simpa using hown1
  case round =>
    obtain ⟨k, hk, rfl, hownk, hupk⟩ := hrel
    have hs := hsz.out
    have hBk := hupk.1.size
    have hlk : (l ++ [UInt8.ofNat (osz m)] ++ (be (osz m) m).take k).length < 140737488355328 := by
      simp [be_length]; omega
    by_cases hlt : k < osz m
    · have hlt' : (k : Int) < ((b : Int) + 7) / 8 := by omega
      have hsn := byte_shr m ((b + 7) / 8 - 1 - k)
      have htk := be_take (osz m) m k hlt
      rw [hs] at htk
      have HT := Lib.hid htk
      have HS := Lib.hid hsn
      clear htk hsn hs hown1 hup1 hB1
      go_wp2_with (at_builtin; refine wpList_app1 _ rfl (.tmp 23) (.tmp 32) 68 rfl 5 B Try.underlying68 infoByte _ _ rfl hownk _ _ rfl (by omega) (by omega) hlk (by omega) ?_; intro v2 w2 hown2 hup2)
      go_roundw
      case rel =>
        refine ⟨k + 1, by omega, by go_num, ?_, hupk.trans hup2⟩
        rw [HS.out] at hown2
        have e := HT.out
        rw [← hsz.out] at e hown2
        rw [e, ← List.append_assoc]
        exact hown2
      case measure => simp [intOf]; omega
    · have hlt' : ¬ (k : Int) < ((b : Int) + 7) / 8 := by omega
      clear hs hown1 hup1 hB1
      go_wp2
      go_ret
      refine ⟨u0, rfl, ?_, hupk⟩
      have e : (be (osz m) m).take k = be (osz m) m := List.take_of_length_le (by rw [be_length]; omega)
      rw [e, List.append_assoc] at hownk
      exact hownk

set_option maxHeartbeats 400000 in
theorem num_neg (B : Nat) (v : Value) (l : List UInt8) (n : Int) (hn : n < 0) (w : World) (hl : l.length < 140737488355000) (hB : B ≤ w.heap.size) (hown : Bs 5 B w v l) :
    Calls Try.prog 61 #[v, .int .i64 n] w (NumPost B v l 0 w) := by
  have hlen : ∀ w, Calls Try.prog 109 #[.int .u64 0] w fun e w' => e = .returned (.int .i64 0) ∧ w = w' := fun w => len_any 0 w (by omega)
  have hmx : max n 0 = 0 := by omega
  go_enter Try.func61, Try.ntmps61
  go_wp2_with (first
    | (go_at_call 109; refine (hlen _).mono ?_; rintro e w' ⟨rfl, rfl⟩)
    | (at_builtin; refine wpList_app1 _ rfl (.tmp 14) (.tmp 17) 68 rfl 5 B Try.underlying68 infoByte _ l rfl hown _ _ rfl (by omega) (by omega) (by omega) hB ?_; intro v1 w1 hown1 hup1))
  refine wp_loop_rounds 1 ?_
  rw [rounds_succ]
  go_wp2
  go_ret
  exact ⟨v1, rfl, hown1, hup1⟩

/-- Of any int. -/
theorem num_any (B : Nat) (v : Value) (l : List UInt8) (n : Int) (hm : n ≤ 9223372036854775807) (w : World) (hl : l.length < 140737488355000) (hB : B ≤ w.heap.size) (hown : Bs 5 B w v l) :
    Calls Try.prog 61 #[v, .int .i64 n] w (NumPost B v l n.toNat w) := by
  by_cases h : n < 0
  · have e : n.toNat = 0 := by omega
    rw [e]
    exact num_neg B v l n h w hl hB hown
  · obtain ⟨m, rfl⟩ : ∃ m : Nat, n = m := ⟨n.toNat, by omega⟩
    rw [Int.toNat_natCast]
    exact num_nat B v l m (by omega) w hl hB hown

/-- 'string(v)' of what is owned. -/
theorem conv_own {P : Program} (E B : Nat) (w : World) (src dst : TypeId) (hs : P.underlying src = some (.slice E)) (he : P.underlying E = some (.int .u8)) (hd : P.underlying dst = some .string) (v : Value) (l : List UInt8) (hown : Bs E B w v l) :
    (convert src dst v).run P w = .ok (.string ⟨l.toArray⟩) w := by
  rcases hown.2 with ⟨rfl, h0⟩ | ⟨g, cap, cur, rfl, _⟩
  · have : l = [] := List.eq_nil_of_length_eq_zero h0
    subst this
    exact run_convert_bytes_nil (P := P) w src E hs he 0 0 dst hd
  · exact run_convert_bytes_back (P := P) w src dst E _ cap l hs he hd fun j hj => World.ownsRow.cells hown (g := g) rfl j _ (by simp [Lib.byteCells, hj])

end Go.Proofs.Ytcebnoapgceodaa
