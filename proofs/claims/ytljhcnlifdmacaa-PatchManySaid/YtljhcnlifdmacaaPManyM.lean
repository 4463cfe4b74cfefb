/-
  Plain facts for mailbaglaw08.PatchMany: a number added again and again.
-/
import Derived.Test.YtljhcnlifdmacaaPEncW
namespace Go.Proofs.Ytljhcnlifdmacaa.patchMany

def nn : ByteArray := ⟨#[110]⟩
def opN (s : Int) : PO := ⟨3, [nn], intV s⟩
def docN (x : Int) : V := V.ofMap [(nn, intV x)]

theorem get_n (x : V) : getF [(nn, x)] nn = some x := by simp [getF]
theorem at_n (x : V) : atF [(nn, x)] nn = 0 := by
  unfold atF
  rw [List.countP_eq_zero]
  intro p hp
  rw [show p = (nn, x) by simpa using hp]
  simp
theorem put_n (x y : V) : putV [(nn, x)] nn (some y) = [(nn, y)] := by
  have h2 : isF [(nn, x)] nn = true := by unfold isF; rw [get_n]; rfl
  unfold putV
  rw [at_n, h2]
  rfl
theorem val_n (x : V) : valF [(nn, x)] nn = x := by unfold valF; rw [get_n]; rfl
theorem is_n (x : V) : isF [(nn, x)] nn = true := by unfold isF; rw [get_n]; rfl

theorem along_n {s x : Int} (hs : 0 ≤ s) (h : x + s ≤ 9223372036854775807) (_hx : 0 ≤ x) : alongV (opN s) [nn] (docN x) = .ok (docN (x + s)) := by
  rw [alongV, if_neg (show ¬ (docN x).kind ≠ 5 from fun h => h rfl)]
  have hf : (docN x).fields = [(nn, intV x)] := rfl
  rw [hf, val_n, is_n]
  have hl : lastV (opN s) (intV x) true = .ok (some (intV (x + s))) := by
    unfold lastV
    rw [if_neg (show ¬ (opN s).kind = 1 by show ¬ (3 : Int) = 1; omega), if_neg (by simp), if_neg (show ¬ (opN s).kind = 2 by show ¬ (3 : Int) = 2; omega)]
    unfold addV
    rw [if_neg]
    · rfl
    · show ¬ ((2 : Int) ≠ 2 ∨ (0 < s ∧ 9223372036854775807 - s < x) ∨ (s < 0 ∧ x < -9223372036854775808 - s))
      omega
  rw [hl]
  show Except.ok ((docN x).setF (putV [(nn, intV x)] nn (some (intV (x + s))))) = _
  rw [put_n]
  rfl

theorem run_n {s : Int} (hs : 0 ≤ s) : ∀ (k : Nat) (x : Int), 0 ≤ x → x + k * s ≤ 9223372036854775807 → runV (List.replicate k (opN s)) (docN x) = .ok (docN (x + k * s))
  | 0, x, _, _ => by simp [runV]
  | k + 1, x, hx, h => by
    have e : ((k + 1 : Nat) : Int) * s = k * s + s := by rw [Int.natCast_add, Int.add_mul]; simp
    rw [e] at h ⊢
    have h0 : 0 ≤ (k : Int) * s := Int.mul_nonneg (by omega) hs
    rw [List.replicate_succ, runV, show (opN s).path = [nn] from rfl, along_n hs (by omega) hx]
    show runV (List.replicate k (opN s)) (docN (x + s)) = _
    rw [run_n hs k (x + s) (by omega) (by omega)]
    congr 2
    omega

theorem doc_right (y : Int) : (docN y).right 32 = true := by
  unfold docN
  rw [V.ofMap, V.right, rightF_mk (List.pairwise_singleton _ _) (fun p hp => by rw [show p = (nn, intV y) by simpa using hp]; exact right_intV31 y)]
  rfl

theorem doc_okv {y : Int} (h : Is64 y) (k : Nat) (hk : 1 ≤ k) : (docN y).okv k := ofMap_okv1 nn (intV y) k (intV_okv h k) hk

theorem app_n {s : Int} {k : Nat} (hs : 0 ≤ s) (hk : k ≤ 50) (h : (k : Int) * s ≤ 9223372036854775807) : applyV (docN 0) (List.replicate k (opN s)) = .ok (docN (k * s)) := by
  unfold applyV
  rw [check_zero (by simpa using hk) (fun o ho => by rw [(List.mem_replicate.1 ho).2]; exact right_add nn s), if_neg (by simp), run_n hs k 0 (by omega) (by omega), Int.zero_add]
  simp only
  rw [if_pos (doc_right _)]

theorem check_n {s : Int} {k : Nat} (h : 50 < k) : checkV (List.replicate k (opN s)) = 4 := by
  unfold checkV
  rw [if_pos (by simpa using h)]

theorem app_long {s : Int} {k : Nat} (h : 50 < k) : applyV (docN 0) (List.replicate k (opN s)) = .error 4 := by
  unfold applyV
  rw [check_n h]
  rfl

theorem fit_n {s : Int} (h : Is64 s) : (intV s).fit := ⟨⟨by omega, by omega⟩, h, by decide, trivial, trivial⟩

theorem sm_n {s : Int} (h : Is64 s) (k : Nat) : ∀ o ∈ List.replicate k (opN s), SmO o := fun o ho => by
  rw [(List.mem_replicate.1 ho).2]
  exact ⟨fun _ => fit_n h, fun t ht => by rw [show t = nn by simpa [opN] using ht]; decide⟩

theorem lay_n {s : Int} (h : Is64 s) : (intV s).lay.length ≤ 4096 := by
  have h1 := fold_lt h
  have h2 := octN_lt (foldI s / 4294967296) (by omega)
  have h3 := octN_lt (foldI s % 4294967296) (by omega)
  show (UInt8.ofNat 2 :: (octN (foldI s / 4294967296) ++ octN (foldI s % 4294967296))).length ≤ 4096
  rw [List.length_cons, List.length_append]
  omega

theorem enc_n {s : Int} {k : Nat} (h : Is64 s) (hk : k ≤ 50) : encO (List.replicate k (opN s)) = .tuple #[.string ⟨(octN (List.replicate k (opN s)).length ++ layOs (List.replicate k (opN s))).toArray⟩, .int .i64 0] := by
  unfold encO
  rw [check_zero (by simpa using hk) (fun o ho => by rw [(List.mem_replicate.1 ho).2]; exact right_add nn s), if_neg (by simp), if_pos]
  exact List.all_eq_true.2 fun o ho => by rw [(List.mem_replicate.1 ho).2]; exact decide_eq_true (lay_n h)

theorem enc_long {s : Int} {k : Nat} (h : 50 < k) : encO (List.replicate k (opN s)) = .tuple #[.string ⟨#[]⟩, .int .i64 4] := by
  unfold encO
  rw [check_n h, if_pos (by omega)]

end Go.Proofs.Ytljhcnlifdmacaa.patchMany
