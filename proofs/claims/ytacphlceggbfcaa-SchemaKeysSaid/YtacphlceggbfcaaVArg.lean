/-
  A value as an argument: its six cells.
-/
import Derived.Test.YtacphlceggbfcaaValMem
namespace Go.Proofs.Ytacphlceggbfcaa
open Go.ChangeShapes Go.WideShapes Go.ChangeAt Go.RowKit Go.Deep Go.Joins

theorem val_arg {H : Type} {enc : TypeId × Value → H} {W : World} {base : Nat} {sp : Nat → Bool} {held : Bool} {v : Value} {d : DataW H} {ps : List MemPlace}
    (h : DataW.Trod enc Try.prog W base sp held 26 v d ps) :
    ∃ (x : V) (lv fv : Value), v = .agg #[.int .i64 x.kind, .bool x.yes, .int .i64 x.num, .string x.text, lv, fv] ∧ x.Is W lv fv ∧ x.n64 := by
  obtain ⟨fuel, hf⟩ := h
  obtain ⟨x, lv, fv, hc, h1, h2, _⟩ := val_came hf
  refine ⟨x, lv, fv, ?_, h1, h2⟩
  cases v with
  | agg cs =>
    have hc : cs.toList = x.cells lv fv := by simpa [Value.cells] using hc
    rw [show cs = (x.cells lv fv).toArray by rw [← hc]]
    rfl
  | _ => simp [Value.cells, V.cells] at hc

end Go.Proofs.Ytacphlceggbfcaa
