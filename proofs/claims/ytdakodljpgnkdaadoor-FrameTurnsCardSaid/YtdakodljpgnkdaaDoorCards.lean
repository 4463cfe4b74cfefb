/-
  DERIVED. GIVEN WITH THE SEED: THE CARDS: each row of YtdakodljpgnkdaaDoorRows.lean that lists a variable, with what it lists TIED to the program's text (the seventh form; the later family's looks); each row that meets fmt, with fmt's text TOLD by the authors' own Lean function (tested against real Go, not proved from fmt's source: count such statements apart). THE CARD IS WHAT COUNTS. Prove the row's statement (the work); the ties are given (YtdakodljpgnkdaaDoorTie.lean); close each card by the builder's one call (the guide's Derived/Test/ToyasCard.lean, 'card_holds'). Laid BY PROGRAM, IN A SANDBOX (cutbox-door.mjs). By AI agents, Wed Nov 11 2026. No macro, syntax, notation, axiom, sorry.
-/
import Derived.Test.YtdakodljpgnkdaaDoorRows
import GoSem.ClaimSeven
namespace Go.Proofs.YtdakodljpgnkdaaDoor
namespace Rows

/-- THE TIED CARD OF 'mailbaglaw05.FrameAlls'. -/
def frameAllsCard : Claim7 := { stood := { row := frameAllsRow, standIns := [], harness := (true, "c885f3ee805f92fca1c5c7d6d42e7b43079d1179628d60e57cb2ada29dfaeb43"), looks := false }, kinds := [], alts := [], laidByText := true, laidKinds := [.data], laidTests := true, laidLooks := .later }
def FrameAllsCardSaid : Prop := Claim7.holds Tryd.pinned (.plain (OpenSpec.ofChange frameAllsSpec)) frameAllsCard

/-- THE TIED CARD OF 'mailbaglaw05.FrameGets'. -/
def frameGetsCard : Claim7 := { stood := { row := frameGetsRow, standIns := [], harness := (true, "c885f3ee805f92fca1c5c7d6d42e7b43079d1179628d60e57cb2ada29dfaeb43"), looks := false }, kinds := [], alts := [], laidByText := true, laidKinds := [.data], laidTests := true, laidLooks := .later }
def FrameGetsCardSaid : Prop := Claim7.holds Tryd.pinned (.plain (OpenSpec.ofChange frameGetsSpec)) frameGetsCard

/-- THE TIED CARD OF 'mailbaglaw05.FrameTurns'. -/
def frameTurnsCard : Claim7 := { stood := { row := frameTurnsRow, standIns := [], harness := (true, "c885f3ee805f92fca1c5c7d6d42e7b43079d1179628d60e57cb2ada29dfaeb43"), looks := false }, kinds := [], alts := [], laidByText := true, laidKinds := [.data], laidTests := true, laidLooks := .later }
def FrameTurnsCardSaid : Prop := Claim7.holds Tryd.pinned (.plain (OpenSpec.ofChange frameTurnsSpec)) frameTurnsCard

/-- THE TIED CARD OF 'mailbaglaw05.FrameSums'. -/
def frameSumsCard : Claim7 := { stood := { row := frameSumsRow, standIns := [], harness := (true, "c885f3ee805f92fca1c5c7d6d42e7b43079d1179628d60e57cb2ada29dfaeb43"), looks := false }, kinds := [], alts := [], laidByText := true, laidKinds := [.data], laidTests := true, laidLooks := .later }
def FrameSumsCardSaid : Prop := Claim7.holds Tryd.pinned (.plain (OpenSpec.ofChange frameSumsSpec)) frameSumsCard

/-- THE TIED CARD OF 'mailbaglaw05.FrameNests'. -/
def frameNestsCard : Claim7 := { stood := { row := frameNestsRow, standIns := [], harness := (true, "c885f3ee805f92fca1c5c7d6d42e7b43079d1179628d60e57cb2ada29dfaeb43"), looks := false }, kinds := [], alts := [], laidByText := true, laidKinds := [.data], laidTests := true, laidLooks := .later }
def FrameNestsCardSaid : Prop := Claim7.holds Tryd.pinned (.plain (OpenSpec.ofChange frameNestsSpec)) frameNestsCard

/-- THE TIED CARD OF 'mailbaglaw05.FrameLong'. -/
def frameLongCard : Claim7 := { stood := { row := frameLongRow, standIns := [], harness := (true, "c885f3ee805f92fca1c5c7d6d42e7b43079d1179628d60e57cb2ada29dfaeb43"), looks := false }, kinds := [], alts := [], laidByText := true, laidKinds := [.data], laidTests := true, laidLooks := .later }
def FrameLongCardSaid : Prop := Claim7.holds Tryd.pinned (.plain (OpenSpec.ofChange frameLongSpec)) frameLongCard

/-- THE SECOND FORM's CARD OF 'mailbaglaw05.FrameAlls'. -/
def frameAllsUptoCard : Claim7 := { stood := { row := frameAllsUptoRow, standIns := [], harness := (true, "c885f3ee805f92fca1c5c7d6d42e7b43079d1179628d60e57cb2ada29dfaeb43"), looks := false }, kinds := [], alts := [], laidByText := true, laidKinds := [.data], laidTests := true, laidLooks := .later }
def FrameAllsUptoCardSaid : Prop := Claim7.holds Tryd.pinned (.plain (OpenSpec.upto frameAllsSpec)) frameAllsUptoCard

/-- THE SECOND FORM's CARD OF 'mailbaglaw05.FrameGets'. -/
def frameGetsUptoCard : Claim7 := { stood := { row := frameGetsUptoRow, standIns := [], harness := (true, "c885f3ee805f92fca1c5c7d6d42e7b43079d1179628d60e57cb2ada29dfaeb43"), looks := false }, kinds := [], alts := [], laidByText := true, laidKinds := [.data], laidTests := true, laidLooks := .later }
def FrameGetsUptoCardSaid : Prop := Claim7.holds Tryd.pinned (.plain (OpenSpec.upto frameGetsSpec)) frameGetsUptoCard

/-- THE SECOND FORM's CARD OF 'mailbaglaw05.FrameTurns'. -/
def frameTurnsUptoCard : Claim7 := { stood := { row := frameTurnsUptoRow, standIns := [], harness := (true, "c885f3ee805f92fca1c5c7d6d42e7b43079d1179628d60e57cb2ada29dfaeb43"), looks := false }, kinds := [], alts := [], laidByText := true, laidKinds := [.data], laidTests := true, laidLooks := .later }
def FrameTurnsUptoCardSaid : Prop := Claim7.holds Tryd.pinned (.plain (OpenSpec.upto frameTurnsSpec)) frameTurnsUptoCard

/-- THE SECOND FORM's CARD OF 'mailbaglaw05.FrameSums'. -/
def frameSumsUptoCard : Claim7 := { stood := { row := frameSumsUptoRow, standIns := [], harness := (true, "c885f3ee805f92fca1c5c7d6d42e7b43079d1179628d60e57cb2ada29dfaeb43"), looks := false }, kinds := [], alts := [], laidByText := true, laidKinds := [.data], laidTests := true, laidLooks := .later }
def FrameSumsUptoCardSaid : Prop := Claim7.holds Tryd.pinned (.plain (OpenSpec.upto frameSumsSpec)) frameSumsUptoCard

/-- THE SECOND FORM's CARD OF 'mailbaglaw05.FrameNests'. -/
def frameNestsUptoCard : Claim7 := { stood := { row := frameNestsUptoRow, standIns := [], harness := (true, "c885f3ee805f92fca1c5c7d6d42e7b43079d1179628d60e57cb2ada29dfaeb43"), looks := false }, kinds := [], alts := [], laidByText := true, laidKinds := [.data], laidTests := true, laidLooks := .later }
def FrameNestsUptoCardSaid : Prop := Claim7.holds Tryd.pinned (.plain (OpenSpec.upto frameNestsSpec)) frameNestsUptoCard

/-- THE SECOND FORM's CARD OF 'mailbaglaw05.FrameLong'. -/
def frameLongUptoCard : Claim7 := { stood := { row := frameLongUptoRow, standIns := [], harness := (true, "c885f3ee805f92fca1c5c7d6d42e7b43079d1179628d60e57cb2ada29dfaeb43"), looks := false }, kinds := [], alts := [], laidByText := true, laidKinds := [.data], laidTests := true, laidLooks := .later }
def FrameLongUptoCardSaid : Prop := Claim7.holds Tryd.pinned (.plain (OpenSpec.upto frameLongSpec)) frameLongUptoCard
end Rows
end Go.Proofs.YtdakodljpgnkdaaDoor
