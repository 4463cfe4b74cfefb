/-
  NARROWER THAN 'FOR EVERY INPUT', by the rows' own cells (each row's printed sentence says how): FrameAlls: laid · FrameGets: laid · FrameTurns: laid · FrameSums: laid · FrameNests: laid · FrameLong: laid.
  DERIVED. THE GIVEN ROWS OF THIS SEAT. 6 by the template 'for every input the law returns true; each argument reads behind the call as it read before'; 0 by the template 'total and deterministic' (their statements: YtdakodljpgnkdaaDoorTotals.lean).
  GIVEN WITH THE SEED: the statements are not yours to turn. If you find one false, say at which input.
  Laid BY PROGRAM, IN A SANDBOX (cutbox-rows.mjs): the forced cells as the released guide's own fill.sh prints them over the translation c1901dcf5e609b20… (all of the seat's roots in one cut). By AI agents, Wed Nov 11 2026. No macro, syntax, notation, axiom, sorry.
-/
import Derived.Test.YtdakodljpgnkdaaDoorChecked
import GoSem.Claim
import GoSem.ClaimJoined
import GoSem.ClaimMapViews
import Derived.JoinedTies
import Derived.KernelRfl
namespace Go.Proofs.YtdakodljpgnkdaaDoor
/- THE CELL 'sum', in the pinned program and in every row, IS THE sha256 OF THE DUMP (.gsa) THAT YtdakodljpgnkdaaDoorProg.lean LOADS. Nothing in Lean hashes anything: it is a label: what it is worth is what the hold of that sum in a sandbox is worth. -/
noncomputable def Tryd.pinned : Pinned := { name := "ytdakodljpgnkdaadoor", sum := "c1901dcf5e609b2019b790c64977d0f0038297a4796f4f4778c4db1c7f3f3626", checked := Tryd.checked }
namespace Rows
def none {H : Type} : Left H := { results := [], args := [] }

/- WHAT THE LISTED PACKAGE-LEVEL VARIABLES READ AS WHEN THE CALL BEGINS. Each datum BY PROGRAM (the guide's laid-datum.mjs) off the statement by which the dump's own 'gosem.cut.vars' lays the variable. In a bare row this is a premise. The card (YtdakodljpgnkdaaDoorCards.lean) ties it to the program's text. -/
def laid_mailbag_frame_remainders {H : Type} : DataW H := .agg [.lit (.int .u32 0), .lit (.int .u32 274646895), .lit (.int .u32 549293790), .lit (.int .u32 820201905), .lit (.int .u32 1098587580), .lit (.int .u32 1361435347), .lit (.int .u32 1640403810), .lit (.int .u32 1905808397), .lit (.int .u32 2197175160), .lit (.int .u32 2460548119), .lit (.int .u32 2722870694), .lit (.int .u32 2987750089), .lit (.int .u32 3280807620), .lit (.int .u32 3553878443), .lit (.int .u32 3811616794), .lit (.int .u32 4084100981)]

/-- 'mailbaglaw05.FrameAlls': WHATEVER THE INPUT: true; the input reads as it did. -/
def frameAllsSpec : ChangeSpec := { name := "frameAlls", fn := fun _ => fun
  | [d1, d2, d3] => { results := [.lit (.bool true)], args := [d1, d2, d3] }
  | _ => none }
def frameAllsRow : OpenClaim := { program := "ytdakodljpgnkdaadoor", sum := "c1901dcf5e609b2019b790c64977d0f0038297a4796f4f4778c4db1c7f3f3626", func := "mailbag/mailbaglaw05.FrameAlls", spec := "frameAlls", named := ["mailbag/frame.remainders"], apart := false, laid := [("mailbag/frame.remainders", laid_mailbag_frame_remainders)] }
def FrameAllsSaid : Prop := frameAllsRow.holds Tryd.pinned (OpenSpec.ofChange frameAllsSpec)

/-- ITS FALSE NEIGHBOUR: 'it returns false'. Refute it at one input. -/
def frameAllsWrong : ChangeSpec := { name := "frameAlls", fn := fun _ => fun
  | [d1, d2, d3] => { results := [.lit (.bool false)], args := [d1, d2, d3] }
  | _ => none }
def FrameAllsWrongFalsely : Prop := frameAllsRow.holds Tryd.pinned (OpenSpec.ofChange frameAllsWrong)

/-- 'mailbaglaw05.FrameGets': WHATEVER THE INPUT: true; the input reads as it did. -/
def frameGetsSpec : ChangeSpec := { name := "frameGets", fn := fun _ => fun
  | [d] => { results := [.lit (.bool true)], args := [d] }
  | _ => none }
def frameGetsRow : OpenClaim := { program := "ytdakodljpgnkdaadoor", sum := "c1901dcf5e609b2019b790c64977d0f0038297a4796f4f4778c4db1c7f3f3626", func := "mailbag/mailbaglaw05.FrameGets", spec := "frameGets", named := ["mailbag/frame.remainders"], apart := false, laid := [("mailbag/frame.remainders", laid_mailbag_frame_remainders)] }
def FrameGetsSaid : Prop := frameGetsRow.holds Tryd.pinned (OpenSpec.ofChange frameGetsSpec)

/-- ITS FALSE NEIGHBOUR: 'it returns false'. Refute it at one input. -/
def frameGetsWrong : ChangeSpec := { name := "frameGets", fn := fun _ => fun
  | [d] => { results := [.lit (.bool false)], args := [d] }
  | _ => none }
def FrameGetsWrongFalsely : Prop := frameGetsRow.holds Tryd.pinned (OpenSpec.ofChange frameGetsWrong)

/-- 'mailbaglaw05.FrameTurns': WHATEVER THE INPUT: true; the input reads as it did. -/
def frameTurnsSpec : ChangeSpec := { name := "frameTurns", fn := fun _ => fun
  | [d1, d2, d3, d4, d5] => { results := [.lit (.bool true)], args := [d1, d2, d3, d4, d5] }
  | _ => none }
def frameTurnsRow : OpenClaim := { program := "ytdakodljpgnkdaadoor", sum := "c1901dcf5e609b2019b790c64977d0f0038297a4796f4f4778c4db1c7f3f3626", func := "mailbag/mailbaglaw05.FrameTurns", spec := "frameTurns", named := ["mailbag/frame.remainders"], apart := false, laid := [("mailbag/frame.remainders", laid_mailbag_frame_remainders)] }
def FrameTurnsSaid : Prop := frameTurnsRow.holds Tryd.pinned (OpenSpec.ofChange frameTurnsSpec)

/-- ITS FALSE NEIGHBOUR: 'it returns false'. Refute it at one input. -/
def frameTurnsWrong : ChangeSpec := { name := "frameTurns", fn := fun _ => fun
  | [d1, d2, d3, d4, d5] => { results := [.lit (.bool false)], args := [d1, d2, d3, d4, d5] }
  | _ => none }
def FrameTurnsWrongFalsely : Prop := frameTurnsRow.holds Tryd.pinned (OpenSpec.ofChange frameTurnsWrong)

/-- 'mailbaglaw05.FrameSums': WHATEVER THE INPUT: true; the input reads as it did. -/
def frameSumsSpec : ChangeSpec := { name := "frameSums", fn := fun _ => fun
  | [d1, d2] => { results := [.lit (.bool true)], args := [d1, d2] }
  | _ => none }
def frameSumsRow : OpenClaim := { program := "ytdakodljpgnkdaadoor", sum := "c1901dcf5e609b2019b790c64977d0f0038297a4796f4f4778c4db1c7f3f3626", func := "mailbag/mailbaglaw05.FrameSums", spec := "frameSums", named := ["mailbag/frame.remainders"], apart := false, laid := [("mailbag/frame.remainders", laid_mailbag_frame_remainders)] }
def FrameSumsSaid : Prop := frameSumsRow.holds Tryd.pinned (OpenSpec.ofChange frameSumsSpec)

/-- ITS FALSE NEIGHBOUR: 'it returns false'. Refute it at one input. -/
def frameSumsWrong : ChangeSpec := { name := "frameSums", fn := fun _ => fun
  | [d1, d2] => { results := [.lit (.bool false)], args := [d1, d2] }
  | _ => none }
def FrameSumsWrongFalsely : Prop := frameSumsRow.holds Tryd.pinned (OpenSpec.ofChange frameSumsWrong)

/-- 'mailbaglaw05.FrameNests': WHATEVER THE INPUT: true; the input reads as it did. -/
def frameNestsSpec : ChangeSpec := { name := "frameNests", fn := fun _ => fun
  | [d1, d2] => { results := [.lit (.bool true)], args := [d1, d2] }
  | _ => none }
def frameNestsRow : OpenClaim := { program := "ytdakodljpgnkdaadoor", sum := "c1901dcf5e609b2019b790c64977d0f0038297a4796f4f4778c4db1c7f3f3626", func := "mailbag/mailbaglaw05.FrameNests", spec := "frameNests", named := ["mailbag/frame.remainders"], apart := false, laid := [("mailbag/frame.remainders", laid_mailbag_frame_remainders)] }
def FrameNestsSaid : Prop := frameNestsRow.holds Tryd.pinned (OpenSpec.ofChange frameNestsSpec)

/-- ITS FALSE NEIGHBOUR: 'it returns false'. Refute it at one input. -/
def frameNestsWrong : ChangeSpec := { name := "frameNests", fn := fun _ => fun
  | [d1, d2] => { results := [.lit (.bool false)], args := [d1, d2] }
  | _ => none }
def FrameNestsWrongFalsely : Prop := frameNestsRow.holds Tryd.pinned (OpenSpec.ofChange frameNestsWrong)

/-- 'mailbaglaw05.FrameLong': WHATEVER THE INPUT: true; the input reads as it did. -/
def frameLongSpec : ChangeSpec := { name := "frameLong", fn := fun _ => fun
  | [d] => { results := [.lit (.bool true)], args := [d] }
  | _ => none }
def frameLongRow : OpenClaim := { program := "ytdakodljpgnkdaadoor", sum := "c1901dcf5e609b2019b790c64977d0f0038297a4796f4f4778c4db1c7f3f3626", func := "mailbag/mailbaglaw05.FrameLong", spec := "frameLong", named := ["mailbag/frame.remainders"], apart := false, laid := [("mailbag/frame.remainders", laid_mailbag_frame_remainders)] }
def FrameLongSaid : Prop := frameLongRow.holds Tryd.pinned (OpenSpec.ofChange frameLongSpec)

/-- ITS FALSE NEIGHBOUR: 'it returns false'. Refute it at one input. -/
def frameLongWrong : ChangeSpec := { name := "frameLong", fn := fun _ => fun
  | [d] => { results := [.lit (.bool false)], args := [d] }
  | _ => none }
def FrameLongWrongFalsely : Prop := frameLongRow.holds Tryd.pinned (OpenSpec.ofChange frameLongWrong)

/- THE SECOND FORM. 'bulk': how many values and letters a reading holds, each counted each time it is reached (what is shared counts as often as it is met; a slice's spare places count too). A statement '..UptoSaid' is the law's where the arguments, and the package variables that the reading takes, are together of bulk at most 1048576: NARROWER than '..Said'. Prove '..Said' where nothing that the law and all that it calls make is longer than what came in: it says more and counts as full. Else prove '..UptoSaid'. A law counts once. -/
mutual
def uptoBulk {H : Type} : DataW H → Nat
  | .lit (.string bytes) => bytes.length + 1
  | .lit _ => 1
  | .nil => 1
  | .ptr d => uptoBulk d + 1
  | .slice elems spare => uptoBulkAll elems + uptoBulkAll spare + 1
  | .agg parts => uptoBulkAll parts + 1
  | .iface _ d => uptoBulk d + 1
  | .map entries => uptoBulkEntries entries + 1
  | .held _ => 1
def uptoBulkAll {H : Type} : List (DataW H) → Nat
  | [] => 0
  | d :: r => uptoBulk d + uptoBulkAll r
def uptoBulkEntries {H : Type} : List (Lit × DataW H) → Nat
  | [] => 0
  | x :: r => uptoBulkEntry x + uptoBulkEntries r
def uptoBulkEntry {H : Type} : Lit × DataW H → Nat
  | (.string bytes, d) => bytes.length + uptoBulk d + 1
  | (_, d) => uptoBulk d + 1
 end
def uptoSmall : (H : Type) → List (DataW H) → Bool := fun _ ds => decide (uptoBulkAll ds ≤ 1048576)
def OpenSpec.upto (s : _root_.Go.ChangeSpec) : _root_.Go.OpenSpec := { _root_.Go.OpenSpec.ofChange s with cond := some uptoSmall }

/-- 'mailbaglaw05.FrameAlls', WHERE WHAT IT READS IS OF BULK AT MOST 1048576: true; the input reads as it did. -/
def frameAllsUptoRow : OpenClaim := { program := "ytdakodljpgnkdaadoor", sum := "c1901dcf5e609b2019b790c64977d0f0038297a4796f4f4778c4db1c7f3f3626", func := "mailbag/mailbaglaw05.FrameAlls", spec := "frameAlls", named := ["mailbag/frame.remainders"], apart := false, laid := [("mailbag/frame.remainders", laid_mailbag_frame_remainders)], narrowed := true }
def FrameAllsUptoSaid : Prop := frameAllsUptoRow.holds Tryd.pinned (OpenSpec.upto frameAllsSpec)

/-- 'mailbaglaw05.FrameGets', WHERE WHAT IT READS IS OF BULK AT MOST 1048576: true; the input reads as it did. -/
def frameGetsUptoRow : OpenClaim := { program := "ytdakodljpgnkdaadoor", sum := "c1901dcf5e609b2019b790c64977d0f0038297a4796f4f4778c4db1c7f3f3626", func := "mailbag/mailbaglaw05.FrameGets", spec := "frameGets", named := ["mailbag/frame.remainders"], apart := false, laid := [("mailbag/frame.remainders", laid_mailbag_frame_remainders)], narrowed := true }
def FrameGetsUptoSaid : Prop := frameGetsUptoRow.holds Tryd.pinned (OpenSpec.upto frameGetsSpec)

/-- 'mailbaglaw05.FrameTurns', WHERE WHAT IT READS IS OF BULK AT MOST 1048576: true; the input reads as it did. -/
def frameTurnsUptoRow : OpenClaim := { program := "ytdakodljpgnkdaadoor", sum := "c1901dcf5e609b2019b790c64977d0f0038297a4796f4f4778c4db1c7f3f3626", func := "mailbag/mailbaglaw05.FrameTurns", spec := "frameTurns", named := ["mailbag/frame.remainders"], apart := false, laid := [("mailbag/frame.remainders", laid_mailbag_frame_remainders)], narrowed := true }
def FrameTurnsUptoSaid : Prop := frameTurnsUptoRow.holds Tryd.pinned (OpenSpec.upto frameTurnsSpec)

/-- 'mailbaglaw05.FrameSums', WHERE WHAT IT READS IS OF BULK AT MOST 1048576: true; the input reads as it did. -/
def frameSumsUptoRow : OpenClaim := { program := "ytdakodljpgnkdaadoor", sum := "c1901dcf5e609b2019b790c64977d0f0038297a4796f4f4778c4db1c7f3f3626", func := "mailbag/mailbaglaw05.FrameSums", spec := "frameSums", named := ["mailbag/frame.remainders"], apart := false, laid := [("mailbag/frame.remainders", laid_mailbag_frame_remainders)], narrowed := true }
def FrameSumsUptoSaid : Prop := frameSumsUptoRow.holds Tryd.pinned (OpenSpec.upto frameSumsSpec)

/-- 'mailbaglaw05.FrameNests', WHERE WHAT IT READS IS OF BULK AT MOST 1048576: true; the input reads as it did. -/
def frameNestsUptoRow : OpenClaim := { program := "ytdakodljpgnkdaadoor", sum := "c1901dcf5e609b2019b790c64977d0f0038297a4796f4f4778c4db1c7f3f3626", func := "mailbag/mailbaglaw05.FrameNests", spec := "frameNests", named := ["mailbag/frame.remainders"], apart := false, laid := [("mailbag/frame.remainders", laid_mailbag_frame_remainders)], narrowed := true }
def FrameNestsUptoSaid : Prop := frameNestsUptoRow.holds Tryd.pinned (OpenSpec.upto frameNestsSpec)

/-- 'mailbaglaw05.FrameLong', WHERE WHAT IT READS IS OF BULK AT MOST 1048576: true; the input reads as it did. -/
def frameLongUptoRow : OpenClaim := { program := "ytdakodljpgnkdaadoor", sum := "c1901dcf5e609b2019b790c64977d0f0038297a4796f4f4778c4db1c7f3f3626", func := "mailbag/mailbaglaw05.FrameLong", spec := "frameLong", named := ["mailbag/frame.remainders"], apart := false, laid := [("mailbag/frame.remainders", laid_mailbag_frame_remainders)], narrowed := true }
def FrameLongUptoSaid : Prop := frameLongUptoRow.holds Tryd.pinned (OpenSpec.upto frameLongSpec)

end Rows
end Go.Proofs.YtdakodljpgnkdaaDoor
