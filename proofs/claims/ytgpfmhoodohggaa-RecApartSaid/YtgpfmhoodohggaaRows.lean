/-
  No cell of these rows narrows 'for every input' (looked for: loops, veiled, ifaces, maps, wideKeys, modest, calm, conditions, laid).
  DERIVED. THE GIVEN ROWS OF THIS SEAT. 4 by the template 'for every input the law returns true; each argument reads behind the call as it read before'; 0 by the template 'total and deterministic' (their statements: YtgpfmhoodohggaaTotals.lean).
  GIVEN WITH THE SEED: the statements are not yours to turn. If you find one false, say at which input.
  Laid BY PROGRAM, IN A SANDBOX (cutbox-rows.mjs): the forced cells as the released guide's own fill.sh prints them over the translation c91dfed9ae0fa187… (all of the seat's roots in one cut). By AI agents, Wed Nov 11 2026. No macro, syntax, notation, axiom, sorry.
-/
import Derived.Test.YtgpfmhoodohggaaChecked
import GoSem.Claim
import GoSem.ClaimJoined
import GoSem.ClaimMapViews
import Derived.JoinedTies
import Derived.KernelRfl
namespace Go.Proofs.Ytgpfmhoodohggaa
/- THE CELL 'sum', in the pinned program and in every row, IS THE sha256 OF THE DUMP (.gsa) THAT YtgpfmhoodohggaaProg.lean LOADS. Nothing in Lean hashes anything: it is a label: what it is worth is what the hold of that sum in a sandbox is worth. -/
noncomputable def Try.pinned : Pinned := { name := "ytgpfmhoodohggaa", sum := "c91dfed9ae0fa187f169e258a75c3062d55cf989b950696ebf6b3a7261da3983", checked := Try.checked }
namespace Rows
def none {H : Type} : Left H := { results := [], args := [] }

/-- 'mailbaglaw11.RecReads': WHATEVER THE INPUT: true; the input reads as it did. -/
def recReadsSpec : ChangeSpec := { name := "recReads", fn := fun _ => fun
  | [d] => { results := [.lit (.bool true)], args := [d] }
  | _ => none }
def recReadsRow : OpenClaim := { program := "ytgpfmhoodohggaa", sum := "c91dfed9ae0fa187f169e258a75c3062d55cf989b950696ebf6b3a7261da3983", func := "mailbag/mailbaglaw11.RecReads", spec := "recReads", inPlace := ["internal/bytealg.abigen_runtime_cmpstring", "slices.overlaps[mailbag/tree.entry[mailbag/chain.Chain]]", "slices.overlaps[[]mailbag/tree.entry[mailbag/chain.Chain]]"], unfollowed := true, recurses := true, apart := false }
def RecReadsSaid : Prop := recReadsRow.holds Try.pinned (OpenSpec.ofChange recReadsSpec)

/-- ITS FALSE NEIGHBOUR: 'it returns false'. Refute it at one input. -/
def recReadsWrong : ChangeSpec := { name := "recReads", fn := fun _ => fun
  | [d] => { results := [.lit (.bool false)], args := [d] }
  | _ => none }
def RecReadsWrongFalsely : Prop := recReadsRow.holds Try.pinned (OpenSpec.ofChange recReadsWrong)

/-- 'mailbaglaw11.RecBad': WHATEVER THE INPUT: true; the input reads as it did. -/
def recBadSpec : ChangeSpec := { name := "recBad", fn := fun _ => fun
  | [d] => { results := [.lit (.bool true)], args := [d] }
  | _ => none }
def recBadRow : OpenClaim := { program := "ytgpfmhoodohggaa", sum := "c91dfed9ae0fa187f169e258a75c3062d55cf989b950696ebf6b3a7261da3983", func := "mailbag/mailbaglaw11.RecBad", spec := "recBad", inPlace := ["internal/bytealg.abigen_runtime_cmpstring", "slices.overlaps[mailbag/tree.entry[mailbag/chain.Chain]]", "slices.overlaps[[]mailbag/tree.entry[mailbag/chain.Chain]]"], unfollowed := true, recurses := true, apart := false }
def RecBadSaid : Prop := recBadRow.holds Try.pinned (OpenSpec.ofChange recBadSpec)

/-- ITS FALSE NEIGHBOUR: 'it returns false'. Refute it at one input. -/
def recBadWrong : ChangeSpec := { name := "recBad", fn := fun _ => fun
  | [d] => { results := [.lit (.bool false)], args := [d] }
  | _ => none }
def RecBadWrongFalsely : Prop := recBadRow.holds Try.pinned (OpenSpec.ofChange recBadWrong)

/-- 'mailbaglaw11.RecApart': WHATEVER THE INPUT: true; the input reads as it did. -/
def recApartSpec : ChangeSpec := { name := "recApart", fn := fun _ => fun
  | [d1, d2] => { results := [.lit (.bool true)], args := [d1, d2] }
  | _ => none }
def recApartRow : OpenClaim := { program := "ytgpfmhoodohggaa", sum := "c91dfed9ae0fa187f169e258a75c3062d55cf989b950696ebf6b3a7261da3983", func := "mailbag/mailbaglaw11.RecApart", spec := "recApart", apart := false }
def RecApartSaid : Prop := recApartRow.holds Try.pinned (OpenSpec.ofChange recApartSpec)

/-- ITS FALSE NEIGHBOUR: 'it returns false'. Refute it at one input. -/
def recApartWrong : ChangeSpec := { name := "recApart", fn := fun _ => fun
  | [d1, d2] => { results := [.lit (.bool false)], args := [d1, d2] }
  | _ => none }
def RecApartWrongFalsely : Prop := recApartRow.holds Try.pinned (OpenSpec.ofChange recApartWrong)

/-- 'mailbaglaw11.RecOf': WHATEVER THE INPUT: true; the input reads as it did. -/
def recOfSpec : ChangeSpec := { name := "recOf", fn := fun _ => fun
  | [d] => { results := [.lit (.bool true)], args := [d] }
  | _ => none }
def recOfRow : OpenClaim := { program := "ytgpfmhoodohggaa", sum := "c91dfed9ae0fa187f169e258a75c3062d55cf989b950696ebf6b3a7261da3983", func := "mailbag/mailbaglaw11.RecOf", spec := "recOf", inPlace := ["internal/bytealg.abigen_runtime_cmpstring", "slices.overlaps[mailbag/tree.entry[mailbag/chain.Chain]]", "slices.overlaps[[]mailbag/tree.entry[mailbag/chain.Chain]]"], unfollowed := true, recurses := true, apart := false }
def RecOfSaid : Prop := recOfRow.holds Try.pinned (OpenSpec.ofChange recOfSpec)

/-- ITS FALSE NEIGHBOUR: 'it returns false'. Refute it at one input. -/
def recOfWrong : ChangeSpec := { name := "recOf", fn := fun _ => fun
  | [d] => { results := [.lit (.bool false)], args := [d] }
  | _ => none }
def RecOfWrongFalsely : Prop := recOfRow.holds Try.pinned (OpenSpec.ofChange recOfWrong)

/- THE SECOND FORM. 'bulk': how many values and letters a reading holds, each counted each time it is reached (what is shared counts as often as it is met; a slice's spare places count too). A statement '..UptoSaid' is the law's where the arguments, and the package variables that the reading takes, are together of bulk at most 1048576: NARROWER than '..Said'. Prove '..Said' where nothing that the law and all that it calls make is longer than what came in: it says more and counts as full. Else prove '..UptoSaid'. A law counts once. -/
mutual
def uptoBulk {H : Type} : DataW H → Nat
  | .lit (.string bytes) => bytes.length + 1
  | .lit _ => 1
  | .nil => 1
  | .ptr d => uptoBulk d + 1
  | .slice elems spare => uptoBulkAll elems + uptoBulkAll spare + 1
  | .agg parts => uptoBulkAll parts + 1
  | .iface _ d => uptoBulk d + 1
  | .map entries => uptoBulkEntries entries + 1
  | .held _ => 1
def uptoBulkAll {H : Type} : List (DataW H) → Nat
  | [] => 0
  | d :: r => uptoBulk d + uptoBulkAll r
def uptoBulkEntries {H : Type} : List (Lit × DataW H) → Nat
  | [] => 0
  | x :: r => uptoBulkEntry x + uptoBulkEntries r
def uptoBulkEntry {H : Type} : Lit × DataW H → Nat
  | (.string bytes, d) => bytes.length + uptoBulk d + 1
  | (_, d) => uptoBulk d + 1
 end
def uptoSmall : (H : Type) → List (DataW H) → Bool := fun _ ds => decide (uptoBulkAll ds ≤ 1048576)
def OpenSpec.upto (s : _root_.Go.ChangeSpec) : _root_.Go.OpenSpec := { _root_.Go.OpenSpec.ofChange s with cond := some uptoSmall }

/-- 'mailbaglaw11.RecReads', WHERE WHAT IT READS IS OF BULK AT MOST 1048576: true; the input reads as it did. -/
def recReadsUptoRow : OpenClaim := { program := "ytgpfmhoodohggaa", sum := "c91dfed9ae0fa187f169e258a75c3062d55cf989b950696ebf6b3a7261da3983", func := "mailbag/mailbaglaw11.RecReads", spec := "recReads", inPlace := ["internal/bytealg.abigen_runtime_cmpstring", "slices.overlaps[mailbag/tree.entry[mailbag/chain.Chain]]", "slices.overlaps[[]mailbag/tree.entry[mailbag/chain.Chain]]"], unfollowed := true, recurses := true, apart := false, narrowed := true }
def RecReadsUptoSaid : Prop := recReadsUptoRow.holds Try.pinned (OpenSpec.upto recReadsSpec)

/-- 'mailbaglaw11.RecBad', WHERE WHAT IT READS IS OF BULK AT MOST 1048576: true; the input reads as it did. -/
def recBadUptoRow : OpenClaim := { program := "ytgpfmhoodohggaa", sum := "c91dfed9ae0fa187f169e258a75c3062d55cf989b950696ebf6b3a7261da3983", func := "mailbag/mailbaglaw11.RecBad", spec := "recBad", inPlace := ["internal/bytealg.abigen_runtime_cmpstring", "slices.overlaps[mailbag/tree.entry[mailbag/chain.Chain]]", "slices.overlaps[[]mailbag/tree.entry[mailbag/chain.Chain]]"], unfollowed := true, recurses := true, apart := false, narrowed := true }
def RecBadUptoSaid : Prop := recBadUptoRow.holds Try.pinned (OpenSpec.upto recBadSpec)

/-- 'mailbaglaw11.RecApart', WHERE WHAT IT READS IS OF BULK AT MOST 1048576: true; the input reads as it did. -/
def recApartUptoRow : OpenClaim := { program := "ytgpfmhoodohggaa", sum := "c91dfed9ae0fa187f169e258a75c3062d55cf989b950696ebf6b3a7261da3983", func := "mailbag/mailbaglaw11.RecApart", spec := "recApart", apart := false, narrowed := true }
def RecApartUptoSaid : Prop := recApartUptoRow.holds Try.pinned (OpenSpec.upto recApartSpec)

/-- 'mailbaglaw11.RecOf', WHERE WHAT IT READS IS OF BULK AT MOST 1048576: true; the input reads as it did. -/
def recOfUptoRow : OpenClaim := { program := "ytgpfmhoodohggaa", sum := "c91dfed9ae0fa187f169e258a75c3062d55cf989b950696ebf6b3a7261da3983", func := "mailbag/mailbaglaw11.RecOf", spec := "recOf", inPlace := ["internal/bytealg.abigen_runtime_cmpstring", "slices.overlaps[mailbag/tree.entry[mailbag/chain.Chain]]", "slices.overlaps[[]mailbag/tree.entry[mailbag/chain.Chain]]"], unfollowed := true, recurses := true, apart := false, narrowed := true }
def RecOfUptoSaid : Prop := recOfUptoRow.holds Try.pinned (OpenSpec.upto recOfSpec)

end Rows
end Go.Proofs.Ytgpfmhoodohggaa
