/-
  DERIVED. GIVEN WITH THE SEED: THE CARDS: each row of YticoklfgmflidaaDoorRows.lean that lists a variable, with what it lists TIED to the program's text (the seventh form; the later family's looks); each row that meets fmt, with fmt's text TOLD by the authors' own Lean function (tested against real Go, not proved from fmt's source: count such statements apart). THE CARD IS WHAT COUNTS. Prove the row's statement (the work); the ties are given (YticoklfgmflidaaDoorTie.lean); close each card by the builder's one call (the guide's Derived/Test/ToyasCard.lean, 'card_holds'). Laid BY PROGRAM, IN A SANDBOX (cutbox-door.mjs). By AI agents, Wed Nov 11 2026. No macro, syntax, notation, axiom, sorry.
-/
import Derived.Test.YticoklfgmflidaaDoorRows
import GoSem.ClaimSeven
namespace Go.Proofs.YticoklfgmflidaaDoor
namespace Rows

/-- THE TIED CARD OF 'limnerlaw04.AffineApplies'. -/
def affineAppliesCard : Claim7 := { stood := { row := affineAppliesRow, standIns := [], harness := (true, "1db6405c48810e7fc1f36b3ec90d676a440da89f92c177f711dd7c542a2132b2"), looks := false }, kinds := [], alts := [], laidByText := true, laidKinds := [.data], laidTests := true, laidLooks := .later }
def AffineAppliesCardSaid : Prop := Claim7.holds Tryd.pinned (.plain (OpenSpec.ofChange affineAppliesSpec)) affineAppliesCard

/-- THE TIED CARD OF 'limnerlaw04.AffineJoins'. -/
def affineJoinsCard : Claim7 := { stood := { row := affineJoinsRow, standIns := [], harness := (true, "1db6405c48810e7fc1f36b3ec90d676a440da89f92c177f711dd7c542a2132b2"), looks := false }, kinds := [], alts := [], laidByText := true, laidKinds := [.data], laidTests := true, laidLooks := .later }
def AffineJoinsCardSaid : Prop := Claim7.holds Tryd.pinned (.plain (OpenSpec.ofChange affineJoinsSpec)) affineJoinsCard

/-- THE TIED CARD OF 'limnerlaw04.AffineNear'. -/
def affineNearCard : Claim7 := { stood := { row := affineNearRow, standIns := [], harness := (true, "1db6405c48810e7fc1f36b3ec90d676a440da89f92c177f711dd7c542a2132b2"), looks := false }, kinds := [], alts := [], laidByText := true, laidKinds := [.data], laidTests := true, laidLooks := .later }
def AffineNearCardSaid : Prop := Claim7.holds Tryd.pinned (.plain (OpenSpec.ofChange affineNearSpec)) affineNearCard

/-- THE TIED CARD OF 'limnerlaw04.AffinePlain'. -/
def affinePlainCard : Claim7 := { stood := { row := affinePlainRow, standIns := [], harness := (true, "1db6405c48810e7fc1f36b3ec90d676a440da89f92c177f711dd7c542a2132b2"), looks := false }, kinds := [], alts := [], laidByText := true, laidKinds := [.data], laidTests := true, laidLooks := .later }
def AffinePlainCardSaid : Prop := Claim7.holds Tryd.pinned (.plain (OpenSpec.ofChange affinePlainSpec)) affinePlainCard

/-- THE TIED CARD OF 'limnerlaw04.AffineBounds'. -/
def affineBoundsCard : Claim7 := { stood := { row := affineBoundsRow, standIns := [], harness := (true, "1db6405c48810e7fc1f36b3ec90d676a440da89f92c177f711dd7c542a2132b2"), looks := false }, kinds := [], alts := [], laidByText := true, laidKinds := [.data], laidTests := true, laidLooks := .later }
def AffineBoundsCardSaid : Prop := Claim7.holds Tryd.pinned (.plain (OpenSpec.ofChange affineBoundsSpec)) affineBoundsCard

/-- THE TIED CARD OF 'limnerlaw04.AffineDets'. -/
def affineDetsCard : Claim7 := { stood := { row := affineDetsRow, standIns := [], harness := (true, "1db6405c48810e7fc1f36b3ec90d676a440da89f92c177f711dd7c542a2132b2"), looks := false }, kinds := [], alts := [], laidByText := true, laidKinds := [.data], laidTests := true, laidLooks := .later }
def AffineDetsCardSaid : Prop := Claim7.holds Tryd.pinned (.plain (OpenSpec.ofChange affineDetsSpec)) affineDetsCard

/-- THE SECOND FORM's CARD OF 'limnerlaw04.AffineApplies'. -/
def affineAppliesUptoCard : Claim7 := { stood := { row := affineAppliesUptoRow, standIns := [], harness := (true, "1db6405c48810e7fc1f36b3ec90d676a440da89f92c177f711dd7c542a2132b2"), looks := false }, kinds := [], alts := [], laidByText := true, laidKinds := [.data], laidTests := true, laidLooks := .later }
def AffineAppliesUptoCardSaid : Prop := Claim7.holds Tryd.pinned (.plain (OpenSpec.upto affineAppliesSpec)) affineAppliesUptoCard

/-- THE SECOND FORM's CARD OF 'limnerlaw04.AffineJoins'. -/
def affineJoinsUptoCard : Claim7 := { stood := { row := affineJoinsUptoRow, standIns := [], harness := (true, "1db6405c48810e7fc1f36b3ec90d676a440da89f92c177f711dd7c542a2132b2"), looks := false }, kinds := [], alts := [], laidByText := true, laidKinds := [.data], laidTests := true, laidLooks := .later }
def AffineJoinsUptoCardSaid : Prop := Claim7.holds Tryd.pinned (.plain (OpenSpec.upto affineJoinsSpec)) affineJoinsUptoCard

/-- THE SECOND FORM's CARD OF 'limnerlaw04.AffineNear'. -/
def affineNearUptoCard : Claim7 := { stood := { row := affineNearUptoRow, standIns := [], harness := (true, "1db6405c48810e7fc1f36b3ec90d676a440da89f92c177f711dd7c542a2132b2"), looks := false }, kinds := [], alts := [], laidByText := true, laidKinds := [.data], laidTests := true, laidLooks := .later }
def AffineNearUptoCardSaid : Prop := Claim7.holds Tryd.pinned (.plain (OpenSpec.upto affineNearSpec)) affineNearUptoCard

/-- THE SECOND FORM's CARD OF 'limnerlaw04.AffinePlain'. -/
def affinePlainUptoCard : Claim7 := { stood := { row := affinePlainUptoRow, standIns := [], harness := (true, "1db6405c48810e7fc1f36b3ec90d676a440da89f92c177f711dd7c542a2132b2"), looks := false }, kinds := [], alts := [], laidByText := true, laidKinds := [.data], laidTests := true, laidLooks := .later }
def AffinePlainUptoCardSaid : Prop := Claim7.holds Tryd.pinned (.plain (OpenSpec.upto affinePlainSpec)) affinePlainUptoCard

/-- THE SECOND FORM's CARD OF 'limnerlaw04.AffineBounds'. -/
def affineBoundsUptoCard : Claim7 := { stood := { row := affineBoundsUptoRow, standIns := [], harness := (true, "1db6405c48810e7fc1f36b3ec90d676a440da89f92c177f711dd7c542a2132b2"), looks := false }, kinds := [], alts := [], laidByText := true, laidKinds := [.data], laidTests := true, laidLooks := .later }
def AffineBoundsUptoCardSaid : Prop := Claim7.holds Tryd.pinned (.plain (OpenSpec.upto affineBoundsSpec)) affineBoundsUptoCard

/-- THE SECOND FORM's CARD OF 'limnerlaw04.AffineDets'. -/
def affineDetsUptoCard : Claim7 := { stood := { row := affineDetsUptoRow, standIns := [], harness := (true, "1db6405c48810e7fc1f36b3ec90d676a440da89f92c177f711dd7c542a2132b2"), looks := false }, kinds := [], alts := [], laidByText := true, laidKinds := [.data], laidTests := true, laidLooks := .later }
def AffineDetsUptoCardSaid : Prop := Claim7.holds Tryd.pinned (.plain (OpenSpec.upto affineDetsSpec)) affineDetsUptoCard
end Rows
end Go.Proofs.YticoklfgmflidaaDoor
