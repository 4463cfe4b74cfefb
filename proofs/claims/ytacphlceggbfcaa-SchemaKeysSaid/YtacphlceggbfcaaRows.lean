/-
  NARROWER THAN 'FOR EVERY INPUT', by the rows' own cells (each row's printed sentence says how): ValOrders: loops · OrdVals: loops · SchemaKeys: loops · SchemaParts: loops.
  DERIVED. THE GIVEN ROWS OF THIS SEAT. 6 by the template 'for every input the law returns true; each argument reads behind the call as it read before'; 0 by the template 'total and deterministic' (their statements: YtacphlceggbfcaaTotals.lean).
  GIVEN WITH THE SEED: the statements are not yours to turn. If you find one false, say at which input.
  Laid BY PROGRAM, IN A SANDBOX (cutbox-rows.mjs): the forced cells as the released guide's own fill.sh prints them over the translation 4635b5fe326b6d30… (all of the seat's roots in one cut). By AI agents, Wed Nov 11 2026. No macro, syntax, notation, axiom, sorry.
-/
import Derived.Test.YtacphlceggbfcaaChecked
import GoSem.Claim
import GoSem.ClaimJoined
import GoSem.ClaimMapViews
import Derived.JoinedTies
import Derived.KernelRfl
namespace Go.Proofs.Ytacphlceggbfcaa
/- THE CELL 'sum', in the pinned program and in every row, IS THE sha256 OF THE DUMP (.gsa) THAT YtacphlceggbfcaaProg.lean LOADS. Nothing in Lean hashes anything: it is a label: what it is worth is what the hold of that sum in a sandbox is worth. -/
noncomputable def Try.pinned : Pinned := { name := "ytacphlceggbfcaa", sum := "4635b5fe326b6d30e16b8b65e84536bec233287fa8fa088a6d6e5ed58f93fae4", checked := Try.checked }
namespace Rows
def none {H : Type} : Left H := { results := [], args := [] }

/-- 'mailbaglaw02.ValOrders': WHATEVER THE INPUT: true; the input reads as it did. -/
def valOrdersSpec : ChangeSpec := { name := "valOrders", fn := fun _ => fun
  | [d1, d2, d3] => { results := [.lit (.bool true)], args := [d1, d2, d3] }
  | _ => none }
def valOrdersRow : OpenClaim := { program := "ytacphlceggbfcaa", sum := "4635b5fe326b6d30e16b8b65e84536bec233287fa8fa088a6d6e5ed58f93fae4", func := "mailbag/mailbaglaw02.ValOrders", spec := "valOrders", inPlace := ["internal/bytealg.abigen_runtime_cmpstring"], unfollowed := true, recurses := true, loops := true, apart := false }
def ValOrdersSaid : Prop := valOrdersRow.holds Try.pinned (OpenSpec.ofChange valOrdersSpec)

/-- ITS FALSE NEIGHBOUR: 'it returns false'. Refute it at one input. -/
def valOrdersWrong : ChangeSpec := { name := "valOrders", fn := fun _ => fun
  | [d1, d2, d3] => { results := [.lit (.bool false)], args := [d1, d2, d3] }
  | _ => none }
def ValOrdersWrongFalsely : Prop := valOrdersRow.holds Try.pinned (OpenSpec.ofChange valOrdersWrong)

/-- 'mailbaglaw02.ValDeep': WHATEVER THE INPUT: true; the input reads as it did. -/
def valDeepSpec : ChangeSpec := { name := "valDeep", fn := fun _ => fun
  | [d] => { results := [.lit (.bool true)], args := [d] }
  | _ => none }
def valDeepRow : OpenClaim := { program := "ytacphlceggbfcaa", sum := "4635b5fe326b6d30e16b8b65e84536bec233287fa8fa088a6d6e5ed58f93fae4", func := "mailbag/mailbaglaw02.ValDeep", spec := "valDeep", inPlace := ["internal/bytealg.abigen_runtime_cmpstring"], unfollowed := true, recurses := true, apart := false }
def ValDeepSaid : Prop := valDeepRow.holds Try.pinned (OpenSpec.ofChange valDeepSpec)

/-- ITS FALSE NEIGHBOUR: 'it returns false'. Refute it at one input. -/
def valDeepWrong : ChangeSpec := { name := "valDeep", fn := fun _ => fun
  | [d] => { results := [.lit (.bool false)], args := [d] }
  | _ => none }
def ValDeepWrongFalsely : Prop := valDeepRow.holds Try.pinned (OpenSpec.ofChange valDeepWrong)

/-- 'mailbaglaw03.OrdVals': WHATEVER THE INPUT: true; the input reads as it did. -/
def ordValsSpec : ChangeSpec := { name := "ordVals", fn := fun _ => fun
  | [d1, d2, d3] => { results := [.lit (.bool true)], args := [d1, d2, d3] }
  | _ => none }
def ordValsRow : OpenClaim := { program := "ytacphlceggbfcaa", sum := "4635b5fe326b6d30e16b8b65e84536bec233287fa8fa088a6d6e5ed58f93fae4", func := "mailbag/mailbaglaw03.OrdVals", spec := "ordVals", inPlace := ["internal/bytealg.abigen_runtime_cmpstring"], unfollowed := true, recurses := true, loops := true, apart := false }
def OrdValsSaid : Prop := ordValsRow.holds Try.pinned (OpenSpec.ofChange ordValsSpec)

/-- ITS FALSE NEIGHBOUR: 'it returns false'. Refute it at one input. -/
def ordValsWrong : ChangeSpec := { name := "ordVals", fn := fun _ => fun
  | [d1, d2, d3] => { results := [.lit (.bool false)], args := [d1, d2, d3] }
  | _ => none }
def OrdValsWrongFalsely : Prop := ordValsRow.holds Try.pinned (OpenSpec.ofChange ordValsWrong)

/-- 'mailbaglaw13.SchemaReads': WHATEVER THE INPUT: true; the input reads as it did. -/
def schemaReadsSpec : ChangeSpec := { name := "schemaReads", fn := fun _ => fun
  | [d1, d2] => { results := [.lit (.bool true)], args := [d1, d2] }
  | _ => none }
def schemaReadsRow : OpenClaim := { program := "ytacphlceggbfcaa", sum := "4635b5fe326b6d30e16b8b65e84536bec233287fa8fa088a6d6e5ed58f93fae4", func := "mailbag/mailbaglaw13.SchemaReads", spec := "schemaReads", unfollowed := true, recurses := true, apart := false }
def SchemaReadsSaid : Prop := schemaReadsRow.holds Try.pinned (OpenSpec.ofChange schemaReadsSpec)

/-- ITS FALSE NEIGHBOUR: 'it returns false'. Refute it at one input. -/
def schemaReadsWrong : ChangeSpec := { name := "schemaReads", fn := fun _ => fun
  | [d1, d2] => { results := [.lit (.bool false)], args := [d1, d2] }
  | _ => none }
def SchemaReadsWrongFalsely : Prop := schemaReadsRow.holds Try.pinned (OpenSpec.ofChange schemaReadsWrong)

/-- 'mailbaglaw13.SchemaKeys': WHATEVER THE INPUT: true; the input reads as it did. -/
def schemaKeysSpec : ChangeSpec := { name := "schemaKeys", fn := fun _ => fun
  | [d1, d2, d3, d4, d5, d6] => { results := [.lit (.bool true)], args := [d1, d2, d3, d4, d5, d6] }
  | _ => none }
def schemaKeysRow : OpenClaim := { program := "ytacphlceggbfcaa", sum := "4635b5fe326b6d30e16b8b65e84536bec233287fa8fa088a6d6e5ed58f93fae4", func := "mailbag/mailbaglaw13.SchemaKeys", spec := "schemaKeys", inPlace := ["internal/bytealg.abigen_runtime_cmpstring", "internal/bytealg.IndexByteString"], unfollowed := true, recurses := true, loops := true, apart := false }
def SchemaKeysSaid : Prop := schemaKeysRow.holds Try.pinned (OpenSpec.ofChange schemaKeysSpec)

/-- ITS FALSE NEIGHBOUR: 'it returns false'. Refute it at one input. -/
def schemaKeysWrong : ChangeSpec := { name := "schemaKeys", fn := fun _ => fun
  | [d1, d2, d3, d4, d5, d6] => { results := [.lit (.bool false)], args := [d1, d2, d3, d4, d5, d6] }
  | _ => none }
def SchemaKeysWrongFalsely : Prop := schemaKeysRow.holds Try.pinned (OpenSpec.ofChange schemaKeysWrong)

/-- 'mailbaglaw13.SchemaParts': WHATEVER THE INPUT: true; the input reads as it did. -/
def schemaPartsSpec : ChangeSpec := { name := "schemaParts", fn := fun _ => fun
  | [d1, d2, d3, d4, d5, d6, d7] => { results := [.lit (.bool true)], args := [d1, d2, d3, d4, d5, d6, d7] }
  | _ => none }
def schemaPartsRow : OpenClaim := { program := "ytacphlceggbfcaa", sum := "4635b5fe326b6d30e16b8b65e84536bec233287fa8fa088a6d6e5ed58f93fae4", func := "mailbag/mailbaglaw13.SchemaParts", spec := "schemaParts", inPlace := ["internal/bytealg.abigen_runtime_cmpstring"], unfollowed := true, recurses := true, loops := true, apart := false }
def SchemaPartsSaid : Prop := schemaPartsRow.holds Try.pinned (OpenSpec.ofChange schemaPartsSpec)

/-- ITS FALSE NEIGHBOUR: 'it returns false'. Refute it at one input. -/
def schemaPartsWrong : ChangeSpec := { name := "schemaParts", fn := fun _ => fun
  | [d1, d2, d3, d4, d5, d6, d7] => { results := [.lit (.bool false)], args := [d1, d2, d3, d4, d5, d6, d7] }
  | _ => none }
def SchemaPartsWrongFalsely : Prop := schemaPartsRow.holds Try.pinned (OpenSpec.ofChange schemaPartsWrong)

/- THE SECOND FORM. 'bulk': how many values and letters a reading holds, each counted each time it is reached (what is shared counts as often as it is met; a slice's spare places count too). A statement '..UptoSaid' is the law's where the arguments, and the package variables that the reading takes, are together of bulk at most 1048576: NARROWER than '..Said'. Prove '..Said' where nothing that the law and all that it calls make is longer than what came in: it says more and counts as full. Else prove '..UptoSaid'. A law counts once. -/
mutual
def uptoBulk {H : Type} : DataW H → Nat
  | .lit (.string bytes) => bytes.length + 1
  | .lit _ => 1
  | .nil => 1
  | .ptr d => uptoBulk d + 1
  | .slice elems spare => uptoBulkAll elems + uptoBulkAll spare + 1
  | .agg parts => uptoBulkAll parts + 1
  | .iface _ d => uptoBulk d + 1
  | .map entries => uptoBulkEntries entries + 1
  | .held _ => 1
def uptoBulkAll {H : Type} : List (DataW H) → Nat
  | [] => 0
  | d :: r => uptoBulk d + uptoBulkAll r
def uptoBulkEntries {H : Type} : List (Lit × DataW H) → Nat
  | [] => 0
  | x :: r => uptoBulkEntry x + uptoBulkEntries r
def uptoBulkEntry {H : Type} : Lit × DataW H → Nat
  | (.string bytes, d) => bytes.length + uptoBulk d + 1
  | (_, d) => uptoBulk d + 1
 end
def uptoSmall : (H : Type) → List (DataW H) → Bool := fun _ ds => decide (uptoBulkAll ds ≤ 1048576)
def OpenSpec.upto (s : _root_.Go.ChangeSpec) : _root_.Go.OpenSpec := { _root_.Go.OpenSpec.ofChange s with cond := some uptoSmall }

/-- 'mailbaglaw02.ValOrders', WHERE WHAT IT READS IS OF BULK AT MOST 1048576: true; the input reads as it did. -/
def valOrdersUptoRow : OpenClaim := { program := "ytacphlceggbfcaa", sum := "4635b5fe326b6d30e16b8b65e84536bec233287fa8fa088a6d6e5ed58f93fae4", func := "mailbag/mailbaglaw02.ValOrders", spec := "valOrders", inPlace := ["internal/bytealg.abigen_runtime_cmpstring"], unfollowed := true, recurses := true, loops := true, apart := false, narrowed := true }
def ValOrdersUptoSaid : Prop := valOrdersUptoRow.holds Try.pinned (OpenSpec.upto valOrdersSpec)

/-- 'mailbaglaw02.ValDeep', WHERE WHAT IT READS IS OF BULK AT MOST 1048576: true; the input reads as it did. -/
def valDeepUptoRow : OpenClaim := { program := "ytacphlceggbfcaa", sum := "4635b5fe326b6d30e16b8b65e84536bec233287fa8fa088a6d6e5ed58f93fae4", func := "mailbag/mailbaglaw02.ValDeep", spec := "valDeep", inPlace := ["internal/bytealg.abigen_runtime_cmpstring"], unfollowed := true, recurses := true, apart := false, narrowed := true }
def ValDeepUptoSaid : Prop := valDeepUptoRow.holds Try.pinned (OpenSpec.upto valDeepSpec)

/-- 'mailbaglaw03.OrdVals', WHERE WHAT IT READS IS OF BULK AT MOST 1048576: true; the input reads as it did. -/
def ordValsUptoRow : OpenClaim := { program := "ytacphlceggbfcaa", sum := "4635b5fe326b6d30e16b8b65e84536bec233287fa8fa088a6d6e5ed58f93fae4", func := "mailbag/mailbaglaw03.OrdVals", spec := "ordVals", inPlace := ["internal/bytealg.abigen_runtime_cmpstring"], unfollowed := true, recurses := true, loops := true, apart := false, narrowed := true }
def OrdValsUptoSaid : Prop := ordValsUptoRow.holds Try.pinned (OpenSpec.upto ordValsSpec)

/-- 'mailbaglaw13.SchemaReads', WHERE WHAT IT READS IS OF BULK AT MOST 1048576: true; the input reads as it did. -/
def schemaReadsUptoRow : OpenClaim := { program := "ytacphlceggbfcaa", sum := "4635b5fe326b6d30e16b8b65e84536bec233287fa8fa088a6d6e5ed58f93fae4", func := "mailbag/mailbaglaw13.SchemaReads", spec := "schemaReads", unfollowed := true, recurses := true, apart := false, narrowed := true }
def SchemaReadsUptoSaid : Prop := schemaReadsUptoRow.holds Try.pinned (OpenSpec.upto schemaReadsSpec)

/-- 'mailbaglaw13.SchemaKeys', WHERE WHAT IT READS IS OF BULK AT MOST 1048576: true; the input reads as it did. -/
def schemaKeysUptoRow : OpenClaim := { program := "ytacphlceggbfcaa", sum := "4635b5fe326b6d30e16b8b65e84536bec233287fa8fa088a6d6e5ed58f93fae4", func := "mailbag/mailbaglaw13.SchemaKeys", spec := "schemaKeys", inPlace := ["internal/bytealg.abigen_runtime_cmpstring", "internal/bytealg.IndexByteString"], unfollowed := true, recurses := true, loops := true, apart := false, narrowed := true }
def SchemaKeysUptoSaid : Prop := schemaKeysUptoRow.holds Try.pinned (OpenSpec.upto schemaKeysSpec)

/-- 'mailbaglaw13.SchemaParts', WHERE WHAT IT READS IS OF BULK AT MOST 1048576: true; the input reads as it did. -/
def schemaPartsUptoRow : OpenClaim := { program := "ytacphlceggbfcaa", sum := "4635b5fe326b6d30e16b8b65e84536bec233287fa8fa088a6d6e5ed58f93fae4", func := "mailbag/mailbaglaw13.SchemaParts", spec := "schemaParts", inPlace := ["internal/bytealg.abigen_runtime_cmpstring"], unfollowed := true, recurses := true, loops := true, apart := false, narrowed := true }
def SchemaPartsUptoSaid : Prop := schemaPartsUptoRow.holds Try.pinned (OpenSpec.upto schemaPartsSpec)

end Rows
end Go.Proofs.Ytacphlceggbfcaa
