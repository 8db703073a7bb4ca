/-
  DERIVED. GIVEN WITH THE SEED: THE CARDS: each row of YtbnbglngpgikfaaGreatDoorRows.lean that lists a variable, with what it lists TIED to the program's text (the seventh form; the later family's looks); each row that meets fmt, with fmt's text TOLD by the authors' own Lean function (tested against real Go, not proved from fmt's source: count such statements apart). THE CARD IS WHAT COUNTS. Prove the row's statement (the work); the ties are given (YtbnbglngpgikfaaGreatDoorTie.lean); close each card by the builder's one call (the guide's Derived/Test/ToyasCard.lean, 'card_holds'). Laid BY PROGRAM, IN A SANDBOX (cutbox-door.mjs). By AI agents, Wed Nov 11 2026. No macro, syntax, notation, axiom, sorry.
-/
import Derived.Test.YtbnbglngpgikfaaGreatDoorRows
import GoSem.ClaimSeven
namespace Go.Proofs.YtbnbglngpgikfaaGreatDoor
namespace Rows

/-- THE TIED CARD OF 'limnerlaw15.PathtextShows'. -/
def pathtextShowsCard : Claim7 := { stood := { row := pathtextShowsRow, standIns := [], harness := (true, "c61903d0c2bf8f22947aa8a7c3d71954d40141903b32caf796a825d4792eb288"), looks := true }, kinds := [], alts := [], laidByText := true, laidKinds := [.data, .data, .data, .data, .sentinel, .sentinel, .data, .pinned], laidTests := true, laidLooks := .later }
def PathtextShowsCardSaid : Prop := Claim7.holds Tryz.pinned (.plain (OpenSpec.ofChange pathtextShowsSpec)) pathtextShowsCard

/-- THE TIED CARD OF 'limnerlaw15.PathtextParses'. -/
def pathtextParsesCard : Claim7 := { stood := { row := pathtextParsesRow, standIns := [], harness := (true, "c61903d0c2bf8f22947aa8a7c3d71954d40141903b32caf796a825d4792eb288"), looks := true }, kinds := [], alts := [], laidByText := true, laidKinds := [.data, .data, .data, .data, .sentinel, .sentinel, .data, .pinned], laidTests := true, laidLooks := .later }
def PathtextParsesCardSaid : Prop := Claim7.holds Tryz.pinned (.plain (OpenSpec.ofChange pathtextParsesSpec)) pathtextParsesCard

/-- THE TIED CARD OF 'limnerlaw15.PathtextReads'. -/
def pathtextReadsCard : Claim7 := { stood := { row := pathtextReadsRow, standIns := [], harness := (true, "c61903d0c2bf8f22947aa8a7c3d71954d40141903b32caf796a825d4792eb288"), looks := true }, kinds := [], alts := [], laidByText := true, laidKinds := [.data, .data, .data, .data, .sentinel, .sentinel, .data, .pinned], laidTests := true, laidLooks := .later }
def PathtextReadsCardSaid : Prop := Claim7.holds Tryz.pinned (.plain (OpenSpec.ofChange pathtextReadsSpec)) pathtextReadsCard

/-- THE TIED CARD OF 'limnerlaw15.PathtextWords'. -/
def pathtextWordsCard : Claim7 := { stood := { row := pathtextWordsRow, standIns := [], harness := (true, "c61903d0c2bf8f22947aa8a7c3d71954d40141903b32caf796a825d4792eb288"), looks := true }, kinds := [], alts := [], laidByText := true, laidKinds := [.data, .data, .data, .data, .sentinel, .sentinel, .data, .pinned], laidTests := true, laidLooks := .later }
def PathtextWordsCardSaid : Prop := Claim7.holds Tryz.pinned (.plain (OpenSpec.ofChange pathtextWordsSpec)) pathtextWordsCard

/-- THE TIED CARD OF 'limnerlaw15.PathtextSmall'. -/
def pathtextSmallCard : Claim7 := { stood := { row := pathtextSmallRow, standIns := [], harness := (true, "c61903d0c2bf8f22947aa8a7c3d71954d40141903b32caf796a825d4792eb288"), looks := true }, kinds := [], alts := [], laidByText := true, laidKinds := [.data, .data, .data, .data, .sentinel, .sentinel, .data, .pinned], laidTests := true, laidLooks := .later }
def PathtextSmallCardSaid : Prop := Claim7.holds Tryz.pinned (.plain (OpenSpec.ofChange pathtextSmallSpec)) pathtextSmallCard

/-- THE SECOND FORM's CARD OF 'limnerlaw15.PathtextShows'. -/
def pathtextShowsUptoCard : Claim7 := { stood := { row := pathtextShowsUptoRow, standIns := [], harness := (true, "c61903d0c2bf8f22947aa8a7c3d71954d40141903b32caf796a825d4792eb288"), looks := true }, kinds := [], alts := [], laidByText := true, laidKinds := [.data, .data, .data, .data, .sentinel, .sentinel, .data, .pinned], laidTests := true, laidLooks := .later }
def PathtextShowsUptoCardSaid : Prop := Claim7.holds Tryz.pinned (.plain (OpenSpec.upto pathtextShowsSpec)) pathtextShowsUptoCard

/-- THE SECOND FORM's CARD OF 'limnerlaw15.PathtextParses'. -/
def pathtextParsesUptoCard : Claim7 := { stood := { row := pathtextParsesUptoRow, standIns := [], harness := (true, "c61903d0c2bf8f22947aa8a7c3d71954d40141903b32caf796a825d4792eb288"), looks := true }, kinds := [], alts := [], laidByText := true, laidKinds := [.data, .data, .data, .data, .sentinel, .sentinel, .data, .pinned], laidTests := true, laidLooks := .later }
def PathtextParsesUptoCardSaid : Prop := Claim7.holds Tryz.pinned (.plain (OpenSpec.upto pathtextParsesSpec)) pathtextParsesUptoCard

/-- THE SECOND FORM's CARD OF 'limnerlaw15.PathtextReads'. -/
def pathtextReadsUptoCard : Claim7 := { stood := { row := pathtextReadsUptoRow, standIns := [], harness := (true, "c61903d0c2bf8f22947aa8a7c3d71954d40141903b32caf796a825d4792eb288"), looks := true }, kinds := [], alts := [], laidByText := true, laidKinds := [.data, .data, .data, .data, .sentinel, .sentinel, .data, .pinned], laidTests := true, laidLooks := .later }
def PathtextReadsUptoCardSaid : Prop := Claim7.holds Tryz.pinned (.plain (OpenSpec.upto pathtextReadsSpec)) pathtextReadsUptoCard

/-- THE SECOND FORM's CARD OF 'limnerlaw15.PathtextWords'. -/
def pathtextWordsUptoCard : Claim7 := { stood := { row := pathtextWordsUptoRow, standIns := [], harness := (true, "c61903d0c2bf8f22947aa8a7c3d71954d40141903b32caf796a825d4792eb288"), looks := true }, kinds := [], alts := [], laidByText := true, laidKinds := [.data, .data, .data, .data, .sentinel, .sentinel, .data, .pinned], laidTests := true, laidLooks := .later }
def PathtextWordsUptoCardSaid : Prop := Claim7.holds Tryz.pinned (.plain (OpenSpec.upto pathtextWordsSpec)) pathtextWordsUptoCard

/-- THE SECOND FORM's CARD OF 'limnerlaw15.PathtextSmall'. -/
def pathtextSmallUptoCard : Claim7 := { stood := { row := pathtextSmallUptoRow, standIns := [], harness := (true, "c61903d0c2bf8f22947aa8a7c3d71954d40141903b32caf796a825d4792eb288"), looks := true }, kinds := [], alts := [], laidByText := true, laidKinds := [.data, .data, .data, .data, .sentinel, .sentinel, .data, .pinned], laidTests := true, laidLooks := .later }
def PathtextSmallUptoCardSaid : Prop := Claim7.holds Tryz.pinned (.plain (OpenSpec.upto pathtextSmallSpec)) pathtextSmallUptoCard
end Rows
end Go.Proofs.YtbnbglngpgikfaaGreatDoor
