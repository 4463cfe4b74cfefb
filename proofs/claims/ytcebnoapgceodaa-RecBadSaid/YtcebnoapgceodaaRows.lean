/-
  No cell of these rows narrows 'for every input' (looked for: loops, veiled, ifaces, maps, wideKeys, modest, calm, conditions, laid).
  DERIVED. THE GIVEN ROWS OF THIS SEAT. 8 by the template 'for every input the law returns true; each argument reads behind the call as it read before'; 0 by the template 'total and deterministic' (their statements: YtcebnoapgceodaaTotals.lean).
  GIVEN WITH THE SEED: the statements are not yours to turn. If you find one false, say at which input.
  Laid BY PROGRAM, IN A SANDBOX (cutbox-rows.mjs): the forced cells as the released guide's own fill.sh prints them over the translation 0a1bf37e4d19d559… (all of the seat's roots in one cut). By AI agents, Wed Nov 11 2026. No macro, syntax, notation, axiom, sorry.
-/
import Derived.Test.YtcebnoapgceodaaChecked
import GoSem.Claim
import GoSem.ClaimJoined
import GoSem.ClaimMapViews
import Derived.JoinedTies
import Derived.KernelRfl
namespace Go.Proofs.Ytcebnoapgceodaa
/- THE CELL 'sum', in the pinned program and in every row, IS THE sha256 OF THE DUMP (.gsa) THAT YtcebnoapgceodaaProg.lean LOADS. Nothing in Lean hashes anything: it is a label: what it is worth is what the hold of that sum in a sandbox is worth. -/
noncomputable def Try.pinned : Pinned := { name := "ytcebnoapgceodaa", sum := "0a1bf37e4d19d5593f0d32698ed0fcabeed35ff0c42aad9df4274f3a0c9ac511", checked := Try.checked }
namespace Rows
def none {H : Type} : Left H := { results := [], args := [] }

/-- 'mailbaglaw09.StoreSees': WHATEVER THE INPUT: true; the input reads as it did. -/
def storeSeesSpec : ChangeSpec := { name := "storeSees", fn := fun _ => fun
  | [d1, d2, d3, d4, d5, d6] => { results := [.lit (.bool true)], args := [d1, d2, d3, d4, d5, d6] }
  | _ => none }
def storeSeesRow : OpenClaim := { program := "ytcebnoapgceodaa", sum := "0a1bf37e4d19d5593f0d32698ed0fcabeed35ff0c42aad9df4274f3a0c9ac511", func := "mailbag/mailbaglaw09.StoreSees", spec := "storeSees", inPlace := ["internal/bytealg.abigen_runtime_cmpstring", "slices.overlaps[mailbag/tree.entry[mailbag/chain.Chain]]", "slices.overlaps[[]mailbag/tree.entry[mailbag/chain.Chain]]"], unfollowed := true, recurses := true, plainKeys := false, apart := false }
def StoreSeesSaid : Prop := storeSeesRow.holds Try.pinned (OpenSpec.ofChange storeSeesSpec)

/-- ITS FALSE NEIGHBOUR: 'it returns false'. Refute it at one input. -/
def storeSeesWrong : ChangeSpec := { name := "storeSees", fn := fun _ => fun
  | [d1, d2, d3, d4, d5, d6] => { results := [.lit (.bool false)], args := [d1, d2, d3, d4, d5, d6] }
  | _ => none }
def StoreSeesWrongFalsely : Prop := storeSeesRow.holds Try.pinned (OpenSpec.ofChange storeSeesWrong)

/-- 'mailbaglaw11.RecBad': WHATEVER THE INPUT: true; the input reads as it did. -/
def recBadSpec : ChangeSpec := { name := "recBad", fn := fun _ => fun
  | [d] => { results := [.lit (.bool true)], args := [d] }
  | _ => none }
def recBadRow : OpenClaim := { program := "ytcebnoapgceodaa", sum := "0a1bf37e4d19d5593f0d32698ed0fcabeed35ff0c42aad9df4274f3a0c9ac511", func := "mailbag/mailbaglaw11.RecBad", spec := "recBad", inPlace := ["internal/bytealg.abigen_runtime_cmpstring", "slices.overlaps[mailbag/tree.entry[mailbag/chain.Chain]]", "slices.overlaps[[]mailbag/tree.entry[mailbag/chain.Chain]]"], unfollowed := true, recurses := true, plainKeys := false, apart := false }
def RecBadSaid : Prop := recBadRow.holds Try.pinned (OpenSpec.ofChange recBadSpec)

/-- ITS FALSE NEIGHBOUR: 'it returns false'. Refute it at one input. -/
def recBadWrong : ChangeSpec := { name := "recBad", fn := fun _ => fun
  | [d] => { results := [.lit (.bool false)], args := [d] }
  | _ => none }
def RecBadWrongFalsely : Prop := recBadRow.holds Try.pinned (OpenSpec.ofChange recBadWrong)

/-- 'mailbaglaw11.RecOf': WHATEVER THE INPUT: true; the input reads as it did. -/
def recOfSpec : ChangeSpec := { name := "recOf", fn := fun _ => fun
  | [d] => { results := [.lit (.bool true)], args := [d] }
  | _ => none }
def recOfRow : OpenClaim := { program := "ytcebnoapgceodaa", sum := "0a1bf37e4d19d5593f0d32698ed0fcabeed35ff0c42aad9df4274f3a0c9ac511", func := "mailbag/mailbaglaw11.RecOf", spec := "recOf", inPlace := ["internal/bytealg.abigen_runtime_cmpstring", "slices.overlaps[mailbag/tree.entry[mailbag/chain.Chain]]", "slices.overlaps[[]mailbag/tree.entry[mailbag/chain.Chain]]"], unfollowed := true, recurses := true, plainKeys := false, apart := false }
def RecOfSaid : Prop := recOfRow.holds Try.pinned (OpenSpec.ofChange recOfSpec)

/-- ITS FALSE NEIGHBOUR: 'it returns false'. Refute it at one input. -/
def recOfWrong : ChangeSpec := { name := "recOf", fn := fun _ => fun
  | [d] => { results := [.lit (.bool false)], args := [d] }
  | _ => none }
def RecOfWrongFalsely : Prop := recOfRow.holds Try.pinned (OpenSpec.ofChange recOfWrong)

/-- 'mailbaglaw11.RecReads': WHATEVER THE INPUT: true; the input reads as it did. -/
def recReadsSpec : ChangeSpec := { name := "recReads", fn := fun _ => fun
  | [d] => { results := [.lit (.bool true)], args := [d] }
  | _ => none }
def recReadsRow : OpenClaim := { program := "ytcebnoapgceodaa", sum := "0a1bf37e4d19d5593f0d32698ed0fcabeed35ff0c42aad9df4274f3a0c9ac511", func := "mailbag/mailbaglaw11.RecReads", spec := "recReads", inPlace := ["internal/bytealg.abigen_runtime_cmpstring", "slices.overlaps[mailbag/tree.entry[mailbag/chain.Chain]]", "slices.overlaps[[]mailbag/tree.entry[mailbag/chain.Chain]]"], unfollowed := true, recurses := true, plainKeys := false, apart := false }
def RecReadsSaid : Prop := recReadsRow.holds Try.pinned (OpenSpec.ofChange recReadsSpec)

/-- ITS FALSE NEIGHBOUR: 'it returns false'. Refute it at one input. -/
def recReadsWrong : ChangeSpec := { name := "recReads", fn := fun _ => fun
  | [d] => { results := [.lit (.bool false)], args := [d] }
  | _ => none }
def RecReadsWrongFalsely : Prop := recReadsRow.holds Try.pinned (OpenSpec.ofChange recReadsWrong)

/-- 'mailbaglaw10.TxnLimits': WHATEVER THE INPUT: true; the input reads as it did. -/
def txnLimitsSpec : ChangeSpec := { name := "txnLimits", fn := fun _ => fun
  | [d] => { results := [.lit (.bool true)], args := [d] }
  | _ => none }
def txnLimitsRow : OpenClaim := { program := "ytcebnoapgceodaa", sum := "0a1bf37e4d19d5593f0d32698ed0fcabeed35ff0c42aad9df4274f3a0c9ac511", func := "mailbag/mailbaglaw10.TxnLimits", spec := "txnLimits", inPlace := ["internal/bytealg.abigen_runtime_cmpstring", "slices.overlaps[mailbag/tree.entry[mailbag/chain.Chain]]", "slices.overlaps[[]mailbag/tree.entry[mailbag/chain.Chain]]", "slices.overlaps[mailbag/tree.entry[mailbag/api.Write]]", "slices.overlaps[[]mailbag/tree.entry[mailbag/api.Write]]"], unfollowed := true, recurses := true, plainKeys := false, apart := false }
def TxnLimitsSaid : Prop := txnLimitsRow.holds Try.pinned (OpenSpec.ofChange txnLimitsSpec)

/-- ITS FALSE NEIGHBOUR: 'it returns false'. Refute it at one input. -/
def txnLimitsWrong : ChangeSpec := { name := "txnLimits", fn := fun _ => fun
  | [d] => { results := [.lit (.bool false)], args := [d] }
  | _ => none }
def TxnLimitsWrongFalsely : Prop := txnLimitsRow.holds Try.pinned (OpenSpec.ofChange txnLimitsWrong)

/-- 'mailbaglaw10.TxnNames': WHATEVER THE INPUT: true; the input reads as it did. -/
def txnNamesSpec : ChangeSpec := { name := "txnNames", fn := fun _ => fun
  | [d1, d2, d3] => { results := [.lit (.bool true)], args := [d1, d2, d3] }
  | _ => none }
def txnNamesRow : OpenClaim := { program := "ytcebnoapgceodaa", sum := "0a1bf37e4d19d5593f0d32698ed0fcabeed35ff0c42aad9df4274f3a0c9ac511", func := "mailbag/mailbaglaw10.TxnNames", spec := "txnNames", inPlace := ["internal/bytealg.abigen_runtime_cmpstring", "slices.overlaps[mailbag/tree.entry[mailbag/chain.Chain]]", "slices.overlaps[[]mailbag/tree.entry[mailbag/chain.Chain]]", "slices.overlaps[mailbag/tree.entry[mailbag/api.Write]]", "slices.overlaps[[]mailbag/tree.entry[mailbag/api.Write]]"], unfollowed := true, recurses := true, plainKeys := false, apart := false }
def TxnNamesSaid : Prop := txnNamesRow.holds Try.pinned (OpenSpec.ofChange txnNamesSpec)

/-- ITS FALSE NEIGHBOUR: 'it returns false'. Refute it at one input. -/
def txnNamesWrong : ChangeSpec := { name := "txnNames", fn := fun _ => fun
  | [d1, d2, d3] => { results := [.lit (.bool false)], args := [d1, d2, d3] }
  | _ => none }
def TxnNamesWrongFalsely : Prop := txnNamesRow.holds Try.pinned (OpenSpec.ofChange txnNamesWrong)

/-- 'mailbaglaw10.TxnAgain': WHATEVER THE INPUT: true; the input reads as it did. -/
def txnAgainSpec : ChangeSpec := { name := "txnAgain", fn := fun _ => fun
  | [d1, d2, d3] => { results := [.lit (.bool true)], args := [d1, d2, d3] }
  | _ => none }
def txnAgainRow : OpenClaim := { program := "ytcebnoapgceodaa", sum := "0a1bf37e4d19d5593f0d32698ed0fcabeed35ff0c42aad9df4274f3a0c9ac511", func := "mailbag/mailbaglaw10.TxnAgain", spec := "txnAgain", inPlace := ["internal/bytealg.abigen_runtime_cmpstring", "slices.overlaps[mailbag/tree.entry[mailbag/chain.Chain]]", "slices.overlaps[[]mailbag/tree.entry[mailbag/chain.Chain]]", "slices.overlaps[mailbag/tree.entry[mailbag/api.Write]]", "slices.overlaps[[]mailbag/tree.entry[mailbag/api.Write]]"], unfollowed := true, recurses := true, plainKeys := false, apart := false }
def TxnAgainSaid : Prop := txnAgainRow.holds Try.pinned (OpenSpec.ofChange txnAgainSpec)

/-- ITS FALSE NEIGHBOUR: 'it returns false'. Refute it at one input. -/
def txnAgainWrong : ChangeSpec := { name := "txnAgain", fn := fun _ => fun
  | [d1, d2, d3] => { results := [.lit (.bool false)], args := [d1, d2, d3] }
  | _ => none }
def TxnAgainWrongFalsely : Prop := txnAgainRow.holds Try.pinned (OpenSpec.ofChange txnAgainWrong)

/-- 'mailbaglaw20.HistEvents': WHATEVER THE INPUT: true; the input reads as it did. -/
def histEventsSpec : ChangeSpec := { name := "histEvents", fn := fun _ => fun
  | [d] => { results := [.lit (.bool true)], args := [d] }
  | _ => none }
def histEventsRow : OpenClaim := { program := "ytcebnoapgceodaa", sum := "0a1bf37e4d19d5593f0d32698ed0fcabeed35ff0c42aad9df4274f3a0c9ac511", func := "mailbag/mailbaglaw20.HistEvents", spec := "histEvents", inPlace := ["internal/bytealg.IndexByteString"], unfollowed := true, recurses := true, plainKeys := false, apart := false }
def HistEventsSaid : Prop := histEventsRow.holds Try.pinned (OpenSpec.ofChange histEventsSpec)

/-- ITS FALSE NEIGHBOUR: 'it returns false'. Refute it at one input. -/
def histEventsWrong : ChangeSpec := { name := "histEvents", fn := fun _ => fun
  | [d] => { results := [.lit (.bool false)], args := [d] }
  | _ => none }
def HistEventsWrongFalsely : Prop := histEventsRow.holds Try.pinned (OpenSpec.ofChange histEventsWrong)

/- THE SECOND FORM. 'bulk': how many values and letters a reading holds, each counted each time it is reached (what is shared counts as often as it is met; a slice's spare places count too). A statement '..UptoSaid' is the law's where the arguments, and the package variables that the reading takes, are together of bulk at most 1048576: NARROWER than '..Said'. Prove '..Said' where nothing that the law and all that it calls make is longer than what came in: it says more and counts as full. Else prove '..UptoSaid'. A law counts once. -/
mutual
def uptoBulk {H : Type} : DataW H → Nat
  | .lit (.string bytes) => bytes.length + 1
  | .lit _ => 1
  | .nil => 1
  | .ptr d => uptoBulk d + 1
  | .slice elems spare => uptoBulkAll elems + uptoBulkAll spare + 1
  | .agg parts => uptoBulkAll parts + 1
  | .iface _ d => uptoBulk d + 1
  | .map entries => uptoBulkEntries entries + 1
  | .held _ => 1
def uptoBulkAll {H : Type} : List (DataW H) → Nat
  | [] => 0
  | d :: r => uptoBulk d + uptoBulkAll r
def uptoBulkEntries {H : Type} : List (Lit × DataW H) → Nat
  | [] => 0
  | x :: r => uptoBulkEntry x + uptoBulkEntries r
def uptoBulkEntry {H : Type} : Lit × DataW H → Nat
  | (.string bytes, d) => bytes.length + uptoBulk d + 1
  | (_, d) => uptoBulk d + 1
 end
def uptoSmall : (H : Type) → List (DataW H) → Bool := fun _ ds => decide (uptoBulkAll ds ≤ 1048576)
def OpenSpec.upto (s : _root_.Go.ChangeSpec) : _root_.Go.OpenSpec := { _root_.Go.OpenSpec.ofChange s with cond := some uptoSmall }

/-- 'mailbaglaw09.StoreSees', WHERE WHAT IT READS IS OF BULK AT MOST 1048576: true; the input reads as it did. -/
def storeSeesUptoRow : OpenClaim := { program := "ytcebnoapgceodaa", sum := "0a1bf37e4d19d5593f0d32698ed0fcabeed35ff0c42aad9df4274f3a0c9ac511", func := "mailbag/mailbaglaw09.StoreSees", spec := "storeSees", inPlace := ["internal/bytealg.abigen_runtime_cmpstring", "slices.overlaps[mailbag/tree.entry[mailbag/chain.Chain]]", "slices.overlaps[[]mailbag/tree.entry[mailbag/chain.Chain]]"], unfollowed := true, recurses := true, plainKeys := false, apart := false, narrowed := true }
def StoreSeesUptoSaid : Prop := storeSeesUptoRow.holds Try.pinned (OpenSpec.upto storeSeesSpec)

/-- 'mailbaglaw11.RecBad', WHERE WHAT IT READS IS OF BULK AT MOST 1048576: true; the input reads as it did. -/
def recBadUptoRow : OpenClaim := { program := "ytcebnoapgceodaa", sum := "0a1bf37e4d19d5593f0d32698ed0fcabeed35ff0c42aad9df4274f3a0c9ac511", func := "mailbag/mailbaglaw11.RecBad", spec := "recBad", inPlace := ["internal/bytealg.abigen_runtime_cmpstring", "slices.overlaps[mailbag/tree.entry[mailbag/chain.Chain]]", "slices.overlaps[[]mailbag/tree.entry[mailbag/chain.Chain]]"], unfollowed := true, recurses := true, plainKeys := false, apart := false, narrowed := true }
def RecBadUptoSaid : Prop := recBadUptoRow.holds Try.pinned (OpenSpec.upto recBadSpec)

/-- 'mailbaglaw11.RecOf', WHERE WHAT IT READS IS OF BULK AT MOST 1048576: true; the input reads as it did. -/
def recOfUptoRow : OpenClaim := { program := "ytcebnoapgceodaa", sum := "0a1bf37e4d19d5593f0d32698ed0fcabeed35ff0c42aad9df4274f3a0c9ac511", func := "mailbag/mailbaglaw11.RecOf", spec := "recOf", inPlace := ["internal/bytealg.abigen_runtime_cmpstring", "slices.overlaps[mailbag/tree.entry[mailbag/chain.Chain]]", "slices.overlaps[[]mailbag/tree.entry[mailbag/chain.Chain]]"], unfollowed := true, recurses := true, plainKeys := false, apart := false, narrowed := true }
def RecOfUptoSaid : Prop := recOfUptoRow.holds Try.pinned (OpenSpec.upto recOfSpec)

/-- 'mailbaglaw11.RecReads', WHERE WHAT IT READS IS OF BULK AT MOST 1048576: true; the input reads as it did. -/
def recReadsUptoRow : OpenClaim := { program := "ytcebnoapgceodaa", sum := "0a1bf37e4d19d5593f0d32698ed0fcabeed35ff0c42aad9df4274f3a0c9ac511", func := "mailbag/mailbaglaw11.RecReads", spec := "recReads", inPlace := ["internal/bytealg.abigen_runtime_cmpstring", "slices.overlaps[mailbag/tree.entry[mailbag/chain.Chain]]", "slices.overlaps[[]mailbag/tree.entry[mailbag/chain.Chain]]"], unfollowed := true, recurses := true, plainKeys := false, apart := false, narrowed := true }
def RecReadsUptoSaid : Prop := recReadsUptoRow.holds Try.pinned (OpenSpec.upto recReadsSpec)

/-- 'mailbaglaw10.TxnLimits', WHERE WHAT IT READS IS OF BULK AT MOST 1048576: true; the input reads as it did. -/
def txnLimitsUptoRow : OpenClaim := { program := "ytcebnoapgceodaa", sum := "0a1bf37e4d19d5593f0d32698ed0fcabeed35ff0c42aad9df4274f3a0c9ac511", func := "mailbag/mailbaglaw10.TxnLimits", spec := "txnLimits", inPlace := ["internal/bytealg.abigen_runtime_cmpstring", "slices.overlaps[mailbag/tree.entry[mailbag/chain.Chain]]", "slices.overlaps[[]mailbag/tree.entry[mailbag/chain.Chain]]", "slices.overlaps[mailbag/tree.entry[mailbag/api.Write]]", "slices.overlaps[[]mailbag/tree.entry[mailbag/api.Write]]"], unfollowed := true, recurses := true, plainKeys := false, apart := false, narrowed := true }
def TxnLimitsUptoSaid : Prop := txnLimitsUptoRow.holds Try.pinned (OpenSpec.upto txnLimitsSpec)

/-- 'mailbaglaw10.TxnNames', WHERE WHAT IT READS IS OF BULK AT MOST 1048576: true; the input reads as it did. -/
def txnNamesUptoRow : OpenClaim := { program := "ytcebnoapgceodaa", sum := "0a1bf37e4d19d5593f0d32698ed0fcabeed35ff0c42aad9df4274f3a0c9ac511", func := "mailbag/mailbaglaw10.TxnNames", spec := "txnNames", inPlace := ["internal/bytealg.abigen_runtime_cmpstring", "slices.overlaps[mailbag/tree.entry[mailbag/chain.Chain]]", "slices.overlaps[[]mailbag/tree.entry[mailbag/chain.Chain]]", "slices.overlaps[mailbag/tree.entry[mailbag/api.Write]]", "slices.overlaps[[]mailbag/tree.entry[mailbag/api.Write]]"], unfollowed := true, recurses := true, plainKeys := false, apart := false, narrowed := true }
def TxnNamesUptoSaid : Prop := txnNamesUptoRow.holds Try.pinned (OpenSpec.upto txnNamesSpec)

/-- 'mailbaglaw10.TxnAgain', WHERE WHAT IT READS IS OF BULK AT MOST 1048576: true; the input reads as it did. -/
def txnAgainUptoRow : OpenClaim := { program := "ytcebnoapgceodaa", sum := "0a1bf37e4d19d5593f0d32698ed0fcabeed35ff0c42aad9df4274f3a0c9ac511", func := "mailbag/mailbaglaw10.TxnAgain", spec := "txnAgain", inPlace := ["internal/bytealg.abigen_runtime_cmpstring", "slices.overlaps[mailbag/tree.entry[mailbag/chain.Chain]]", "slices.overlaps[[]mailbag/tree.entry[mailbag/chain.Chain]]", "slices.overlaps[mailbag/tree.entry[mailbag/api.Write]]", "slices.overlaps[[]mailbag/tree.entry[mailbag/api.Write]]"], unfollowed := true, recurses := true, plainKeys := false, apart := false, narrowed := true }
def TxnAgainUptoSaid : Prop := txnAgainUptoRow.holds Try.pinned (OpenSpec.upto txnAgainSpec)

/-- 'mailbaglaw20.HistEvents', WHERE WHAT IT READS IS OF BULK AT MOST 1048576: true; the input reads as it did. -/
def histEventsUptoRow : OpenClaim := { program := "ytcebnoapgceodaa", sum := "0a1bf37e4d19d5593f0d32698ed0fcabeed35ff0c42aad9df4274f3a0c9ac511", func := "mailbag/mailbaglaw20.HistEvents", spec := "histEvents", inPlace := ["internal/bytealg.IndexByteString"], unfollowed := true, recurses := true, plainKeys := false, apart := false, narrowed := true }
def HistEventsUptoSaid : Prop := histEventsUptoRow.holds Try.pinned (OpenSpec.upto histEventsSpec)

end Rows
end Go.Proofs.Ytcebnoapgceodaa
