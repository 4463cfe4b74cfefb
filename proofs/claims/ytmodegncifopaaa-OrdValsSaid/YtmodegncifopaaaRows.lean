/-
  NARROWER THAN 'FOR EVERY INPUT', by the rows' own cells (each row's printed sentence says how): ValBytes: loops · ValOrders: loops · ValFields: loops · ValApart: loops · OrdVals: loops.
  DERIVED. THE GIVEN ROWS OF THIS SEAT. 9 by the template 'for every input the law returns true; each argument reads behind the call as it read before'; 0 by the template 'total and deterministic' (their statements: YtmodegncifopaaaTotals.lean).
  GIVEN WITH THE SEED: the statements are not yours to turn. If you find one false, say at which input.
  Laid BY PROGRAM, IN A SANDBOX (cutbox-rows.mjs): the forced cells as the released guide's own fill.sh prints them over the translation 1faf3566d6922591… (all of the seat's roots in one cut). By AI agents, Wed Nov 11 2026. No macro, syntax, notation, axiom, sorry.
-/
import Derived.Test.YtmodegncifopaaaChecked
import GoSem.Claim
import GoSem.ClaimJoined
import GoSem.ClaimMapViews
import Derived.JoinedTies
import Derived.KernelRfl
namespace Go.Proofs.Ytmodegncifopaaa
/- THE CELL 'sum', in the pinned program and in every row, IS THE sha256 OF THE DUMP (.gsa) THAT YtmodegncifopaaaProg.lean LOADS. Nothing in Lean hashes anything: it is a label: what it is worth is what the hold of that sum in a sandbox is worth. -/
noncomputable def Try.pinned : Pinned := { name := "ytmodegncifopaaa", sum := "1faf3566d69225915a2730edeb423450c48f67a6bcceff1eca743ced548c62de", checked := Try.checked }
namespace Rows
def none {H : Type} : Left H := { results := [], args := [] }

/-- 'mailbaglaw02.ValBytes': WHATEVER THE INPUT: true; the input reads as it did. -/
def valBytesSpec : ChangeSpec := { name := "valBytes", fn := fun _ => fun
  | [d] => { results := [.lit (.bool true)], args := [d] }
  | _ => none }
def valBytesRow : OpenClaim := { program := "ytmodegncifopaaa", sum := "1faf3566d69225915a2730edeb423450c48f67a6bcceff1eca743ced548c62de", func := "mailbag/mailbaglaw02.ValBytes", spec := "valBytes", inPlace := ["internal/bytealg.abigen_runtime_cmpstring"], unfollowed := true, recurses := true, loops := true, apart := false }
def ValBytesSaid : Prop := valBytesRow.holds Try.pinned (OpenSpec.ofChange valBytesSpec)

/-- ITS FALSE NEIGHBOUR: 'it returns false'. Refute it at one input. -/
def valBytesWrong : ChangeSpec := { name := "valBytes", fn := fun _ => fun
  | [d] => { results := [.lit (.bool false)], args := [d] }
  | _ => none }
def ValBytesWrongFalsely : Prop := valBytesRow.holds Try.pinned (OpenSpec.ofChange valBytesWrong)

/-- 'mailbaglaw02.ValReads': WHATEVER THE INPUT: true; the input reads as it did. -/
def valReadsSpec : ChangeSpec := { name := "valReads", fn := fun _ => fun
  | [d] => { results := [.lit (.bool true)], args := [d] }
  | _ => none }
def valReadsRow : OpenClaim := { program := "ytmodegncifopaaa", sum := "1faf3566d69225915a2730edeb423450c48f67a6bcceff1eca743ced548c62de", func := "mailbag/mailbaglaw02.ValReads", spec := "valReads", inPlace := ["internal/bytealg.abigen_runtime_cmpstring"], unfollowed := true, recurses := true, apart := false }
def ValReadsSaid : Prop := valReadsRow.holds Try.pinned (OpenSpec.ofChange valReadsSpec)

/-- ITS FALSE NEIGHBOUR: 'it returns false'. Refute it at one input. -/
def valReadsWrong : ChangeSpec := { name := "valReads", fn := fun _ => fun
  | [d] => { results := [.lit (.bool false)], args := [d] }
  | _ => none }
def ValReadsWrongFalsely : Prop := valReadsRow.holds Try.pinned (OpenSpec.ofChange valReadsWrong)

/-- 'mailbaglaw02.ValOrders': WHATEVER THE INPUT: true; the input reads as it did. -/
def valOrdersSpec : ChangeSpec := { name := "valOrders", fn := fun _ => fun
  | [d1, d2, d3] => { results := [.lit (.bool true)], args := [d1, d2, d3] }
  | _ => none }
def valOrdersRow : OpenClaim := { program := "ytmodegncifopaaa", sum := "1faf3566d69225915a2730edeb423450c48f67a6bcceff1eca743ced548c62de", func := "mailbag/mailbaglaw02.ValOrders", spec := "valOrders", inPlace := ["internal/bytealg.abigen_runtime_cmpstring"], unfollowed := true, recurses := true, loops := true, apart := false }
def ValOrdersSaid : Prop := valOrdersRow.holds Try.pinned (OpenSpec.ofChange valOrdersSpec)

/-- ITS FALSE NEIGHBOUR: 'it returns false'. Refute it at one input. -/
def valOrdersWrong : ChangeSpec := { name := "valOrders", fn := fun _ => fun
  | [d1, d2, d3] => { results := [.lit (.bool false)], args := [d1, d2, d3] }
  | _ => none }
def ValOrdersWrongFalsely : Prop := valOrdersRow.holds Try.pinned (OpenSpec.ofChange valOrdersWrong)

/-- 'mailbaglaw02.ValFields': WHATEVER THE INPUT: true; the input reads as it did. -/
def valFieldsSpec : ChangeSpec := { name := "valFields", fn := fun _ => fun
  | [d1, d2, d3] => { results := [.lit (.bool true)], args := [d1, d2, d3] }
  | _ => none }
def valFieldsRow : OpenClaim := { program := "ytmodegncifopaaa", sum := "1faf3566d69225915a2730edeb423450c48f67a6bcceff1eca743ced548c62de", func := "mailbag/mailbaglaw02.ValFields", spec := "valFields", inPlace := ["internal/bytealg.abigen_runtime_cmpstring", "slices.overlaps[mailbag/val.Field]"], unfollowed := true, recurses := true, loops := true, apart := false }
def ValFieldsSaid : Prop := valFieldsRow.holds Try.pinned (OpenSpec.ofChange valFieldsSpec)

/-- ITS FALSE NEIGHBOUR: 'it returns false'. Refute it at one input. -/
def valFieldsWrong : ChangeSpec := { name := "valFields", fn := fun _ => fun
  | [d1, d2, d3] => { results := [.lit (.bool false)], args := [d1, d2, d3] }
  | _ => none }
def ValFieldsWrongFalsely : Prop := valFieldsRow.holds Try.pinned (OpenSpec.ofChange valFieldsWrong)

/-- 'mailbaglaw02.ValDeep': WHATEVER THE INPUT: true; the input reads as it did. -/
def valDeepSpec : ChangeSpec := { name := "valDeep", fn := fun _ => fun
  | [d] => { results := [.lit (.bool true)], args := [d] }
  | _ => none }
def valDeepRow : OpenClaim := { program := "ytmodegncifopaaa", sum := "1faf3566d69225915a2730edeb423450c48f67a6bcceff1eca743ced548c62de", func := "mailbag/mailbaglaw02.ValDeep", spec := "valDeep", inPlace := ["internal/bytealg.abigen_runtime_cmpstring"], unfollowed := true, recurses := true, apart := false }
def ValDeepSaid : Prop := valDeepRow.holds Try.pinned (OpenSpec.ofChange valDeepSpec)

/-- ITS FALSE NEIGHBOUR: 'it returns false'. Refute it at one input. -/
def valDeepWrong : ChangeSpec := { name := "valDeep", fn := fun _ => fun
  | [d] => { results := [.lit (.bool false)], args := [d] }
  | _ => none }
def ValDeepWrongFalsely : Prop := valDeepRow.holds Try.pinned (OpenSpec.ofChange valDeepWrong)

/-- 'mailbaglaw02.ValApart': WHATEVER THE INPUT: true; the input reads as it did. -/
def valApartSpec : ChangeSpec := { name := "valApart", fn := fun _ => fun
  | [d1, d2] => { results := [.lit (.bool true)], args := [d1, d2] }
  | _ => none }
def valApartRow : OpenClaim := { program := "ytmodegncifopaaa", sum := "1faf3566d69225915a2730edeb423450c48f67a6bcceff1eca743ced548c62de", func := "mailbag/mailbaglaw02.ValApart", spec := "valApart", inPlace := ["internal/bytealg.abigen_runtime_cmpstring"], unfollowed := true, recurses := true, loops := true, apart := false }
def ValApartSaid : Prop := valApartRow.holds Try.pinned (OpenSpec.ofChange valApartSpec)

/-- ITS FALSE NEIGHBOUR: 'it returns false'. Refute it at one input. -/
def valApartWrong : ChangeSpec := { name := "valApart", fn := fun _ => fun
  | [d1, d2] => { results := [.lit (.bool false)], args := [d1, d2] }
  | _ => none }
def ValApartWrongFalsely : Prop := valApartRow.holds Try.pinned (OpenSpec.ofChange valApartWrong)

/-- 'mailbaglaw02.ValLists': WHATEVER THE INPUT: true; the input reads as it did. -/
def valListsSpec : ChangeSpec := { name := "valLists", fn := fun _ => fun
  | [d1, d2] => { results := [.lit (.bool true)], args := [d1, d2] }
  | _ => none }
def valListsRow : OpenClaim := { program := "ytmodegncifopaaa", sum := "1faf3566d69225915a2730edeb423450c48f67a6bcceff1eca743ced548c62de", func := "mailbag/mailbaglaw02.ValLists", spec := "valLists", inPlace := ["internal/bytealg.abigen_runtime_cmpstring"], unfollowed := true, recurses := true, apart := false }
def ValListsSaid : Prop := valListsRow.holds Try.pinned (OpenSpec.ofChange valListsSpec)

/-- ITS FALSE NEIGHBOUR: 'it returns false'. Refute it at one input. -/
def valListsWrong : ChangeSpec := { name := "valLists", fn := fun _ => fun
  | [d1, d2] => { results := [.lit (.bool false)], args := [d1, d2] }
  | _ => none }
def ValListsWrongFalsely : Prop := valListsRow.holds Try.pinned (OpenSpec.ofChange valListsWrong)

/-- 'mailbaglaw02.ValLong': WHATEVER THE INPUT: true; the input reads as it did. -/
def valLongSpec : ChangeSpec := { name := "valLong", fn := fun _ => fun
  | [d1, d2] => { results := [.lit (.bool true)], args := [d1, d2] }
  | _ => none }
def valLongRow : OpenClaim := { program := "ytmodegncifopaaa", sum := "1faf3566d69225915a2730edeb423450c48f67a6bcceff1eca743ced548c62de", func := "mailbag/mailbaglaw02.ValLong", spec := "valLong", inPlace := ["internal/bytealg.abigen_runtime_cmpstring"], unfollowed := true, recurses := true, apart := false }
def ValLongSaid : Prop := valLongRow.holds Try.pinned (OpenSpec.ofChange valLongSpec)

/-- ITS FALSE NEIGHBOUR: 'it returns false'. Refute it at one input. -/
def valLongWrong : ChangeSpec := { name := "valLong", fn := fun _ => fun
  | [d1, d2] => { results := [.lit (.bool false)], args := [d1, d2] }
  | _ => none }
def ValLongWrongFalsely : Prop := valLongRow.holds Try.pinned (OpenSpec.ofChange valLongWrong)

/-- 'mailbaglaw03.OrdVals': WHATEVER THE INPUT: true; the input reads as it did. -/
def ordValsSpec : ChangeSpec := { name := "ordVals", fn := fun _ => fun
  | [d1, d2, d3] => { results := [.lit (.bool true)], args := [d1, d2, d3] }
  | _ => none }
def ordValsRow : OpenClaim := { program := "ytmodegncifopaaa", sum := "1faf3566d69225915a2730edeb423450c48f67a6bcceff1eca743ced548c62de", func := "mailbag/mailbaglaw03.OrdVals", spec := "ordVals", inPlace := ["internal/bytealg.abigen_runtime_cmpstring"], unfollowed := true, recurses := true, loops := true, apart := false }
def OrdValsSaid : Prop := ordValsRow.holds Try.pinned (OpenSpec.ofChange ordValsSpec)

/-- ITS FALSE NEIGHBOUR: 'it returns false'. Refute it at one input. -/
def ordValsWrong : ChangeSpec := { name := "ordVals", fn := fun _ => fun
  | [d1, d2, d3] => { results := [.lit (.bool false)], args := [d1, d2, d3] }
  | _ => none }
def OrdValsWrongFalsely : Prop := ordValsRow.holds Try.pinned (OpenSpec.ofChange ordValsWrong)

/- THE SECOND FORM. 'bulk': how many values and letters a reading holds, each counted each time it is reached (what is shared counts as often as it is met; a slice's spare places count too). A statement '..UptoSaid' is the law's where the arguments, and the package variables that the reading takes, are together of bulk at most 1048576: NARROWER than '..Said'. Prove '..Said' where nothing that the law and all that it calls make is longer than what came in: it says more and counts as full. Else prove '..UptoSaid'. A law counts once. -/
mutual
def uptoBulk {H : Type} : DataW H → Nat
  | .lit (.string bytes) => bytes.length + 1
  | .lit _ => 1
  | .nil => 1
  | .ptr d => uptoBulk d + 1
  | .slice elems spare => uptoBulkAll elems + uptoBulkAll spare + 1
  | .agg parts => uptoBulkAll parts + 1
  | .iface _ d => uptoBulk d + 1
  | .map entries => uptoBulkEntries entries + 1
  | .held _ => 1
def uptoBulkAll {H : Type} : List (DataW H) → Nat
  | [] => 0
  | d :: r => uptoBulk d + uptoBulkAll r
def uptoBulkEntries {H : Type} : List (Lit × DataW H) → Nat
  | [] => 0
  | x :: r => uptoBulkEntry x + uptoBulkEntries r
def uptoBulkEntry {H : Type} : Lit × DataW H → Nat
  | (.string bytes, d) => bytes.length + uptoBulk d + 1
  | (_, d) => uptoBulk d + 1
 end
def uptoSmall : (H : Type) → List (DataW H) → Bool := fun _ ds => decide (uptoBulkAll ds ≤ 1048576)
def OpenSpec.upto (s : _root_.Go.ChangeSpec) : _root_.Go.OpenSpec := { _root_.Go.OpenSpec.ofChange s with cond := some uptoSmall }

/-- 'mailbaglaw02.ValBytes', WHERE WHAT IT READS IS OF BULK AT MOST 1048576: true; the input reads as it did. -/
def valBytesUptoRow : OpenClaim := { program := "ytmodegncifopaaa", sum := "1faf3566d69225915a2730edeb423450c48f67a6bcceff1eca743ced548c62de", func := "mailbag/mailbaglaw02.ValBytes", spec := "valBytes", inPlace := ["internal/bytealg.abigen_runtime_cmpstring"], unfollowed := true, recurses := true, loops := true, apart := false, narrowed := true }
def ValBytesUptoSaid : Prop := valBytesUptoRow.holds Try.pinned (OpenSpec.upto valBytesSpec)

/-- 'mailbaglaw02.ValReads', WHERE WHAT IT READS IS OF BULK AT MOST 1048576: true; the input reads as it did. -/
def valReadsUptoRow : OpenClaim := { program := "ytmodegncifopaaa", sum := "1faf3566d69225915a2730edeb423450c48f67a6bcceff1eca743ced548c62de", func := "mailbag/mailbaglaw02.ValReads", spec := "valReads", inPlace := ["internal/bytealg.abigen_runtime_cmpstring"], unfollowed := true, recurses := true, apart := false, narrowed := true }
def ValReadsUptoSaid : Prop := valReadsUptoRow.holds Try.pinned (OpenSpec.upto valReadsSpec)

/-- 'mailbaglaw02.ValOrders', WHERE WHAT IT READS IS OF BULK AT MOST 1048576: true; the input reads as it did. -/
def valOrdersUptoRow : OpenClaim := { program := "ytmodegncifopaaa", sum := "1faf3566d69225915a2730edeb423450c48f67a6bcceff1eca743ced548c62de", func := "mailbag/mailbaglaw02.ValOrders", spec := "valOrders", inPlace := ["internal/bytealg.abigen_runtime_cmpstring"], unfollowed := true, recurses := true, loops := true, apart := false, narrowed := true }
def ValOrdersUptoSaid : Prop := valOrdersUptoRow.holds Try.pinned (OpenSpec.upto valOrdersSpec)

/-- 'mailbaglaw02.ValFields', WHERE WHAT IT READS IS OF BULK AT MOST 1048576: true; the input reads as it did. -/
def valFieldsUptoRow : OpenClaim := { program := "ytmodegncifopaaa", sum := "1faf3566d69225915a2730edeb423450c48f67a6bcceff1eca743ced548c62de", func := "mailbag/mailbaglaw02.ValFields", spec := "valFields", inPlace := ["internal/bytealg.abigen_runtime_cmpstring", "slices.overlaps[mailbag/val.Field]"], unfollowed := true, recurses := true, loops := true, apart := false, narrowed := true }
def ValFieldsUptoSaid : Prop := valFieldsUptoRow.holds Try.pinned (OpenSpec.upto valFieldsSpec)

/-- 'mailbaglaw02.ValDeep', WHERE WHAT IT READS IS OF BULK AT MOST 1048576: true; the input reads as it did. -/
def valDeepUptoRow : OpenClaim := { program := "ytmodegncifopaaa", sum := "1faf3566d69225915a2730edeb423450c48f67a6bcceff1eca743ced548c62de", func := "mailbag/mailbaglaw02.ValDeep", spec := "valDeep", inPlace := ["internal/bytealg.abigen_runtime_cmpstring"], unfollowed := true, recurses := true, apart := false, narrowed := true }
def ValDeepUptoSaid : Prop := valDeepUptoRow.holds Try.pinned (OpenSpec.upto valDeepSpec)

/-- 'mailbaglaw02.ValApart', WHERE WHAT IT READS IS OF BULK AT MOST 1048576: true; the input reads as it did. -/
def valApartUptoRow : OpenClaim := { program := "ytmodegncifopaaa", sum := "1faf3566d69225915a2730edeb423450c48f67a6bcceff1eca743ced548c62de", func := "mailbag/mailbaglaw02.ValApart", spec := "valApart", inPlace := ["internal/bytealg.abigen_runtime_cmpstring"], unfollowed := true, recurses := true, loops := true, apart := false, narrowed := true }
def ValApartUptoSaid : Prop := valApartUptoRow.holds Try.pinned (OpenSpec.upto valApartSpec)

/-- 'mailbaglaw02.ValLists', WHERE WHAT IT READS IS OF BULK AT MOST 1048576: true; the input reads as it did. -/
def valListsUptoRow : OpenClaim := { program := "ytmodegncifopaaa", sum := "1faf3566d69225915a2730edeb423450c48f67a6bcceff1eca743ced548c62de", func := "mailbag/mailbaglaw02.ValLists", spec := "valLists", inPlace := ["internal/bytealg.abigen_runtime_cmpstring"], unfollowed := true, recurses := true, apart := false, narrowed := true }
def ValListsUptoSaid : Prop := valListsUptoRow.holds Try.pinned (OpenSpec.upto valListsSpec)

/-- 'mailbaglaw02.ValLong', WHERE WHAT IT READS IS OF BULK AT MOST 1048576: true; the input reads as it did. -/
def valLongUptoRow : OpenClaim := { program := "ytmodegncifopaaa", sum := "1faf3566d69225915a2730edeb423450c48f67a6bcceff1eca743ced548c62de", func := "mailbag/mailbaglaw02.ValLong", spec := "valLong", inPlace := ["internal/bytealg.abigen_runtime_cmpstring"], unfollowed := true, recurses := true, apart := false, narrowed := true }
def ValLongUptoSaid : Prop := valLongUptoRow.holds Try.pinned (OpenSpec.upto valLongSpec)

/-- 'mailbaglaw03.OrdVals', WHERE WHAT IT READS IS OF BULK AT MOST 1048576: true; the input reads as it did. -/
def ordValsUptoRow : OpenClaim := { program := "ytmodegncifopaaa", sum := "1faf3566d69225915a2730edeb423450c48f67a6bcceff1eca743ced548c62de", func := "mailbag/mailbaglaw03.OrdVals", spec := "ordVals", inPlace := ["internal/bytealg.abigen_runtime_cmpstring"], unfollowed := true, recurses := true, loops := true, apart := false, narrowed := true }
def OrdValsUptoSaid : Prop := ordValsUptoRow.holds Try.pinned (OpenSpec.upto ordValsSpec)

end Rows
end Go.Proofs.Ytmodegncifopaaa
