/-
  chain: Put.
-/
import Derived.Test.YtgjgiokdplglbaaChP
namespace Go.Proofs.Ytgjgiokdplglbaa
open Go.RowKit

/-- an append in a drawn region: the version lies in a new block -/
theorem oper_app_ver (W : World) {o : Oper} {a : Act} {K : Act → World → Prop} {Q : Exit → Act → World → Prop} (s x : Operand)
    (ho : o.op = .call { callee := .builtin .append, args := #[s, x], argTypes := #[62, 62] })
    (ad : Option Addr) (vs : List Ver) (hs : a.eval s = .slice ad vs.length vs.length) (h : ChIs W ad vs) (hl : vs.length ≤ 1000000) (v : Ver) (m : Nat)
    (cs : Array Value) (hcs : cs = (vcells v).toArray) (hx : a.eval x = .slice (some ⟨W.heap.size, 0, none⟩) 1 m)
    (hk : ∀ v' w', ChNew W w' v' (vs ++ [v]) → K (a.put o.dst v') w') :
    o.wp Try.prog a (W.alloc (.cells cs 64)) K Q := by
  subst hcs
  obtain ⟨v', w', hr, g, c, h1, h2, h3, h4, h5, h6, h7⟩ := run_app_ver (W.alloc (.cells (vcells v).toArray 64)) o.type ad vs (h.below ((Below.refl _ _).alloc (Nat.le_refl _) _)) hl v W.heap.size m (heap_alloc_new W _)
  unfold Oper.wp execOp
  simp only [ho, resolve, invoke, builtin, Sem.run_bind, Sem.run_pure, Result.andThen_ok, List.map_toArray, List.map_cons, List.map_nil, hs, hx, hr]
  exact hk v' w' ⟨g, c, h1, h2, h3, by simp at h4; omega, h5, h6, ((Below.refl _ _).alloc (Nat.le_refl _) _).trans (h7.mono (by simp))⟩

theorem put_no (a : Option Addr) (c : Nat) (vs : List Ver) (s : Int) (t : ByteArray) (g : Bool) (w : World) (h : ChIs w a vs) (hf : Ver.folB ⟨s, t, g⟩ (lastI vs) = false) :
    Calls Try.prog 27 #[.slice a vs.length c, .agg #[.int .i64 s, .string t, .bool g]] w fun e w' => e = .returned (.tuple #[.slice none 0 0, .int .i64 1]) ∧ Below w.heap.size w w' := by
  have HL : Hid (∀ W, Below w.heap.size w W → Calls Try.prog 29 #[.slice a vs.length c] W fun e w' => e = .returned (.int .i64 (lastI vs)) ∧ W = w') := Lib.hid fun W hB => last_any a c vs W (h.below hB)
  have HC := Lib.hid (fun W => hf ▸ follows_any s t g (lastI vs) W)
  clear hf h
  have HB : Hid (∀ W, Below (w.alloc (.cells #[.int .i64 s, .string t, .bool g] 64)).heap.size (w.alloc (.cells #[.int .i64 s, .string t, .bool g] 64)) W → Below w.heap.size w W) := Lib.hid fun W h => ((Below.refl _ _).alloc (Nat.le_refl _) _).trans (h.mono (by simp))
  go_enter Try.func27, Try.ntmps27
  go_wp2
  go_region_held3 (fun w' => w'.cell? ⟨w.heap.size, 0, none⟩ = some (.int .i64 s) ∧ w'.cell? ⟨w.heap.size, 1, none⟩ = some (.string t) ∧ w'.cell? ⟨w.heap.size, 2, none⟩ = some (.bool g)) (first | go_keep | exact new3 (undrew hb5))
    (first
      | (go_at_call 29; refine (HL.out _ ?_).mono ?_; exact ((Below.refl _ _).alloc (Nat.le_refl _) _).drew; rintro e w4 ⟨rfl, rfl⟩)
      | (go_at_call 44; refine (HC.out _).mono ?_; rintro e w5 ⟨rfl, hb5⟩))
  go_wp2
  exact bodyPost_ret (v := .tuple #[.slice none 0 0, .int .i64 1]) (by simp [results, Try.results27, go_sem]) rfl ⟨rfl, HB.out _ (undrew hb5)⟩

def PutOK (w w' : World) (vs : List Ver) (e : Ending) : Prop := ∃ vv, e = .returned (.tuple #[vv, .int .i64 0]) ∧ ChNew w w' vv vs

set_option maxHeartbeats 2000000 in
theorem put_ok (a : Option Addr) (c : Nat) (vs : List Ver) (s : Int) (t : ByteArray) (g : Bool) (w : World) (h : ChIs w a vs) (hl : vs.length ≤ 1000000) (hlc : vs.length ≤ c) (hf : Ver.folB ⟨s, t, g⟩ (lastI vs) = true) :
    Calls Try.prog 27 #[.slice a vs.length c, .agg #[.int .i64 s, .string t, .bool g]] w fun e w' => PutOK w w' (vs ++ [⟨s, t, g⟩]) e := by
  have HL : Hid (∀ W, Below w.heap.size w W → Calls Try.prog 29 #[.slice a vs.length c] W fun e w' => e = .returned (.int .i64 (lastI vs)) ∧ W = w') := Lib.hid fun W hB => last_any a c vs W (h.below hB)
  have HC := Lib.hid (fun W => hf ▸ follows_any s t g (lastI vs) W)
  have HH : Hid (∀ W, Below w.heap.size w W → ChIs W a vs) := Lib.hid fun W hB => h.below hB
  clear hf h
  have HB : Hid (∀ W, Below (w.alloc (.cells #[.int .i64 s, .string t, .bool g] 64)).heap.size (w.alloc (.cells #[.int .i64 s, .string t, .bool g] 64)) W → Below w.heap.size w W) := Lib.hid fun W h => ((Below.refl _ _).alloc (Nat.le_refl _) _).trans (h.mono (by simp))
  go_enter Try.func27, Try.ntmps27
  go_wp2
  go_region_held3 (fun w' => w'.cell? ⟨w.heap.size, 0, none⟩ = some (.int .i64 s) ∧ w'.cell? ⟨w.heap.size, 1, none⟩ = some (.string t) ∧ w'.cell? ⟨w.heap.size, 2, none⟩ = some (.bool g)) (first | go_keep | exact new3 (undrew hb5))
    (first
      | (go_at_call 29; refine (HL.out _ ?_).mono ?_; exact ((Below.refl _ _).alloc (Nat.le_refl _) _).drew; rintro e w4 ⟨rfl, rfl⟩)
      | (go_at_call 44; refine (HC.out _).mono ?_; rintro e w5 ⟨rfl, hb5⟩))
  have hbw := HB.out _ (undrew hb5)
  obtain ⟨d0, d1, d2⟩ := new3 (undrew hb5)
  have hz5 : w.heap.size < w5.heap.size := by have h1 := (undrew hb5).size; simp at h1; omega
  clear hb5
  have HI := Lib.hid (HH.out _ hbw.drew)
  go_wp2
  go_region_held3 (fun w' => w'.cell? ⟨w.heap.size, 0, none⟩ = some (.int .i64 s) ∧ w'.cell? ⟨w.heap.size, 1, none⟩ = some (.string t) ∧ w'.cell? ⟨w.heap.size, 2, none⟩ = some (.bool g)) (first | go_keep | (obtain ⟨_, _, _, _, _, _, _, _, hb6⟩ := hn6; exact ⟨(hb6.cell hz5).trans d0, (hb6.cell hz5).trans d1, (hb6.cell hz5).trans d2⟩))
    ((rw [if_pos (by rfl)]; refine oper_app_ver _ (.tmp 16) (.tmp 18) rfl a vs rfl HI.out hl ⟨s, t, g⟩ _ _ rfl rfl ?_; intro vv w6 hn6))
  go_wp2
  obtain ⟨q, c6, rfl, k1, k2, k3, k4, k5, k6⟩ := hn6
  have k3' : w5.heap.size ≤ q := k3
  exact bodyPost_ret (v := .tuple #[.slice (some ⟨q, 0, none⟩) (vs ++ [(⟨s, t, g⟩ : Ver)]).length c6, .int .i64 0]) (by simp [results, Try.results27, go_sem]) rfl
    ⟨_, rfl, q, c6, rfl, k1, k2, by omega, k4, k5, hbw.drew.trans (k6.mono (by show w.heap.size ≤ w5.heap.size; omega))⟩

end Go.Proofs.Ytgjgiokdplglbaa
