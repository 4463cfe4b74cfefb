/-
  octet.Text and octet.Flag: what they lay behind a slice of the call's own.
-/
import Derived.Test.YtcebnoapgceodaaNum
namespace Go.Proofs.Ytcebnoapgceodaa
open Go.RowKit

def octT (s : ByteArray) : List UInt8 := octN s.size ++ s.data.toList
def octF (x : Bool) : List UInt8 := [if x then 1 else 0]

def LayPost (B : Nat) (v : Value) (l : List UInt8) (w : World) (e : Ending) (w' : World) : Prop :=
  ∃ v', e = .returned v' ∧ Bs 5 B w' v' l ∧ Up w v w' v'

theorem text_any (B : Nat) (v : Value) (l : List UInt8) (s : ByteArray) (w : World) (hl : l.length + s.size < 140737488355000) (hB : B ≤ w.heap.size) (hown : Bs 5 B w v l) :
    Calls Try.prog 95 #[v, .string s] w (LayPost B v (l ++ octT s) w) := by
  have h9 := octN_lt s.size (by omega)
  go_enter Try.func95, Try.ntmps95
  go_wp2_with fail
  refine (num_nat B v l s.size (by omega) w (by omega) hB hown).mono ?_
  rintro e w1 ⟨v1, rfl, hown1, hup1⟩
  have hz := hup1.1.size
  have hlen : (l ++ octN s.size).length + s.size ≤ 140737488355328 := by rw [List.length_append]; omega
  go_wp2_with (at_builtin; refine wpList_app_str _ rfl (.tmp 8) (.tmp 9) 68 9 rfl 5 B Try.underlying68 Try.underlying9 infoByte _ _ rfl hown1 s rfl hlen (by omega) ?_; intro v2 w2 hown2 hup2)
  go_ret
  exact ⟨v2, rfl, by unfold octT; rw [← List.append_assoc]; exact hown2, hup1.trans hup2⟩

theorem flag_any (B : Nat) (v : Value) (l : List UInt8) (x : Bool) (w : World) (hl : l.length < 140737488355000) (hB : B ≤ w.heap.size) (hown : Bs 5 B w v l) :
    Calls Try.prog 108 #[v, .bool x] w (LayPost B v (l ++ octF x) w) := by
  cases x
  all_goals
    go_enter Try.func108, Try.ntmps108
    go_wp2_with (first
      | (at_builtin; refine wpList_app1 _ rfl (.tmp 6) (.tmp 7) 68 rfl 5 B Try.underlying68 infoByte _ l rfl hown _ _ rfl (by decide) (by decide) (by omega) hB ?_; intro v1 w1 hown1 hup1)
      | (at_builtin; refine wpList_app1 _ rfl (.tmp 9) (.tmp 10) 68 rfl 5 B Try.underlying68 infoByte _ l rfl hown _ _ rfl (by decide) (by decide) (by omega) hB ?_; intro v1 w1 hown1 hup1))
    go_ret
    exact ⟨v1, rfl, hown1, hup1⟩

end Go.Proofs.Ytcebnoapgceodaa
