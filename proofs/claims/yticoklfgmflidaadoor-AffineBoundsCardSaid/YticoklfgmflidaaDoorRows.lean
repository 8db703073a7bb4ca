/-
  NARROWER THAN 'FOR EVERY INPUT', by the rows' own cells (each row's printed sentence says how): AffineApplies: laid · AffineJoins: laid · AffineNear: laid · AffinePlain: laid · AffineBounds: laid · AffineDets: laid.
  DERIVED. THE GIVEN ROWS OF THIS SEAT. 6 by the template 'for every input the law returns true; each argument reads behind the call as it read before'; 0 by the template 'total and deterministic' (their statements: YticoklfgmflidaaDoorTotals.lean).
  GIVEN WITH THE SEED: the statements are not yours to turn. If you find one false, say at which input.
  Laid BY PROGRAM, IN A SANDBOX (cutbox-rows.mjs): the forced cells as the released guide's own fill.sh prints them over the translation 0fbc5881125abfc9… (all of the seat's roots in one cut). By AI agents, Wed Nov 11 2026. No macro, syntax, notation, axiom, sorry.
-/
import Derived.Test.YticoklfgmflidaaDoorChecked
import GoSem.Claim
import GoSem.ClaimJoined
import GoSem.ClaimMapViews
import Derived.JoinedTies
import Derived.KernelRfl
namespace Go.Proofs.YticoklfgmflidaaDoor
/- THE CELL 'sum', in the pinned program and in every row, IS THE sha256 OF THE DUMP (.gsa) THAT YticoklfgmflidaaDoorProg.lean LOADS. Nothing in Lean hashes anything: it is a label: what it is worth is what the hold of that sum in a sandbox is worth. -/
noncomputable def Tryd.pinned : Pinned := { name := "yticoklfgmflidaadoor", sum := "0fbc5881125abfc960dcd7174e383a5a5f8a22243ee14f1c58d243a3a7e56cde", checked := Tryd.checked }
namespace Rows
def none {H : Type} : Left H := { results := [], args := [] }

/- WHAT THE LISTED PACKAGE-LEVEL VARIABLES READ AS WHEN THE CALL BEGINS. Each datum BY PROGRAM (the guide's laid-datum.mjs) off the statement by which the dump's own 'gosem.cut.vars' lays the variable. In a bare row this is a premise. The card (YticoklfgmflidaaDoorCards.lean) ties it to the program's text. -/
def laid_limner_affine_quarters {H : Type} : DataW H := .agg [.agg [.lit (.int .i64 65536), .lit (.int .i64 0), .lit (.int .i64 0), .lit (.int .i64 65536), .lit (.int .i64 0), .lit (.int .i64 0)], .agg [.lit (.int .i64 0), .lit (.int .i64 65536), .lit (.int .i64 (-65536)), .lit (.int .i64 0), .lit (.int .i64 0), .lit (.int .i64 0)], .agg [.lit (.int .i64 (-65536)), .lit (.int .i64 0), .lit (.int .i64 0), .lit (.int .i64 (-65536)), .lit (.int .i64 0), .lit (.int .i64 0)], .agg [.lit (.int .i64 0), .lit (.int .i64 (-65536)), .lit (.int .i64 65536), .lit (.int .i64 0), .lit (.int .i64 0), .lit (.int .i64 0)]]

/-- 'limnerlaw04.AffineApplies': WHATEVER THE INPUT: true; the input reads as it did. -/
def affineAppliesSpec : ChangeSpec := { name := "affineApplies", fn := fun _ => fun
  | [d1, d2] => { results := [.lit (.bool true)], args := [d1, d2] }
  | _ => none }
def affineAppliesRow : OpenClaim := { program := "yticoklfgmflidaadoor", sum := "0fbc5881125abfc960dcd7174e383a5a5f8a22243ee14f1c58d243a3a7e56cde", func := "limner/limnerlaw04.AffineApplies", spec := "affineApplies", named := ["limner/affine.quarters"], apart := false, laid := [("limner/affine.quarters", laid_limner_affine_quarters)] }
def AffineAppliesSaid : Prop := affineAppliesRow.holds Tryd.pinned (OpenSpec.ofChange affineAppliesSpec)

/-- ITS FALSE NEIGHBOUR: 'it returns false'. Refute it at one input. -/
def affineAppliesWrong : ChangeSpec := { name := "affineApplies", fn := fun _ => fun
  | [d1, d2] => { results := [.lit (.bool false)], args := [d1, d2] }
  | _ => none }
def AffineAppliesWrongFalsely : Prop := affineAppliesRow.holds Tryd.pinned (OpenSpec.ofChange affineAppliesWrong)

/-- 'limnerlaw04.AffineJoins': WHATEVER THE INPUT: true; the input reads as it did. -/
def affineJoinsSpec : ChangeSpec := { name := "affineJoins", fn := fun _ => fun
  | [d1, d2] => { results := [.lit (.bool true)], args := [d1, d2] }
  | _ => none }
def affineJoinsRow : OpenClaim := { program := "yticoklfgmflidaadoor", sum := "0fbc5881125abfc960dcd7174e383a5a5f8a22243ee14f1c58d243a3a7e56cde", func := "limner/limnerlaw04.AffineJoins", spec := "affineJoins", named := ["limner/affine.quarters"], apart := false, laid := [("limner/affine.quarters", laid_limner_affine_quarters)] }
def AffineJoinsSaid : Prop := affineJoinsRow.holds Tryd.pinned (OpenSpec.ofChange affineJoinsSpec)

/-- ITS FALSE NEIGHBOUR: 'it returns false'. Refute it at one input. -/
def affineJoinsWrong : ChangeSpec := { name := "affineJoins", fn := fun _ => fun
  | [d1, d2] => { results := [.lit (.bool false)], args := [d1, d2] }
  | _ => none }
def AffineJoinsWrongFalsely : Prop := affineJoinsRow.holds Tryd.pinned (OpenSpec.ofChange affineJoinsWrong)

/-- 'limnerlaw04.AffineNear': WHATEVER THE INPUT: true; the input reads as it did. -/
def affineNearSpec : ChangeSpec := { name := "affineNear", fn := fun _ => fun
  | [d1, d2, d3] => { results := [.lit (.bool true)], args := [d1, d2, d3] }
  | _ => none }
def affineNearRow : OpenClaim := { program := "yticoklfgmflidaadoor", sum := "0fbc5881125abfc960dcd7174e383a5a5f8a22243ee14f1c58d243a3a7e56cde", func := "limner/limnerlaw04.AffineNear", spec := "affineNear", named := ["limner/affine.quarters"], apart := false, laid := [("limner/affine.quarters", laid_limner_affine_quarters)] }
def AffineNearSaid : Prop := affineNearRow.holds Tryd.pinned (OpenSpec.ofChange affineNearSpec)

/-- ITS FALSE NEIGHBOUR: 'it returns false'. Refute it at one input. -/
def affineNearWrong : ChangeSpec := { name := "affineNear", fn := fun _ => fun
  | [d1, d2, d3] => { results := [.lit (.bool false)], args := [d1, d2, d3] }
  | _ => none }
def AffineNearWrongFalsely : Prop := affineNearRow.holds Tryd.pinned (OpenSpec.ofChange affineNearWrong)

/-- 'limnerlaw04.AffinePlain': WHATEVER THE INPUT: true; the input reads as it did. -/
def affinePlainSpec : ChangeSpec := { name := "affinePlain", fn := fun _ => fun
  | [d] => { results := [.lit (.bool true)], args := [d] }
  | _ => none }
def affinePlainRow : OpenClaim := { program := "yticoklfgmflidaadoor", sum := "0fbc5881125abfc960dcd7174e383a5a5f8a22243ee14f1c58d243a3a7e56cde", func := "limner/limnerlaw04.AffinePlain", spec := "affinePlain", named := ["limner/affine.quarters"], apart := false, laid := [("limner/affine.quarters", laid_limner_affine_quarters)] }
def AffinePlainSaid : Prop := affinePlainRow.holds Tryd.pinned (OpenSpec.ofChange affinePlainSpec)

/-- ITS FALSE NEIGHBOUR: 'it returns false'. Refute it at one input. -/
def affinePlainWrong : ChangeSpec := { name := "affinePlain", fn := fun _ => fun
  | [d] => { results := [.lit (.bool false)], args := [d] }
  | _ => none }
def AffinePlainWrongFalsely : Prop := affinePlainRow.holds Tryd.pinned (OpenSpec.ofChange affinePlainWrong)

/-- 'limnerlaw04.AffineBounds': WHATEVER THE INPUT: true; the input reads as it did. -/
def affineBoundsSpec : ChangeSpec := { name := "affineBounds", fn := fun _ => fun
  | [d1, d2, d3] => { results := [.lit (.bool true)], args := [d1, d2, d3] }
  | _ => none }
def affineBoundsRow : OpenClaim := { program := "yticoklfgmflidaadoor", sum := "0fbc5881125abfc960dcd7174e383a5a5f8a22243ee14f1c58d243a3a7e56cde", func := "limner/limnerlaw04.AffineBounds", spec := "affineBounds", named := ["limner/affine.quarters"], apart := false, laid := [("limner/affine.quarters", laid_limner_affine_quarters)] }
def AffineBoundsSaid : Prop := affineBoundsRow.holds Tryd.pinned (OpenSpec.ofChange affineBoundsSpec)

/-- ITS FALSE NEIGHBOUR: 'it returns false'. Refute it at one input. -/
def affineBoundsWrong : ChangeSpec := { name := "affineBounds", fn := fun _ => fun
  | [d1, d2, d3] => { results := [.lit (.bool false)], args := [d1, d2, d3] }
  | _ => none }
def AffineBoundsWrongFalsely : Prop := affineBoundsRow.holds Tryd.pinned (OpenSpec.ofChange affineBoundsWrong)

/-- 'limnerlaw04.AffineDets': WHATEVER THE INPUT: true; the input reads as it did. -/
def affineDetsSpec : ChangeSpec := { name := "affineDets", fn := fun _ => fun
  | [d1, d2] => { results := [.lit (.bool true)], args := [d1, d2] }
  | _ => none }
def affineDetsRow : OpenClaim := { program := "yticoklfgmflidaadoor", sum := "0fbc5881125abfc960dcd7174e383a5a5f8a22243ee14f1c58d243a3a7e56cde", func := "limner/limnerlaw04.AffineDets", spec := "affineDets", inPlace := ["math/bits.Sub64"], named := ["limner/affine.quarters"], apart := false, laid := [("limner/affine.quarters", laid_limner_affine_quarters)] }
def AffineDetsSaid : Prop := affineDetsRow.holds Tryd.pinned (OpenSpec.ofChange affineDetsSpec)

/-- ITS FALSE NEIGHBOUR: 'it returns false'. Refute it at one input. -/
def affineDetsWrong : ChangeSpec := { name := "affineDets", fn := fun _ => fun
  | [d1, d2] => { results := [.lit (.bool false)], args := [d1, d2] }
  | _ => none }
def AffineDetsWrongFalsely : Prop := affineDetsRow.holds Tryd.pinned (OpenSpec.ofChange affineDetsWrong)

/- THE SECOND FORM. 'bulk': how many values and letters a reading holds, each counted each time it is reached (what is shared counts as often as it is met; a slice's spare places count too). A statement '..UptoSaid' is the law's where the arguments, and the package variables that the reading takes, are together of bulk at most 1048576: NARROWER than '..Said'. Prove '..Said' where nothing that the law and all that it calls make is longer than what came in: it says more and counts as full. Else prove '..UptoSaid'. A law counts once. -/
mutual
def uptoBulk {H : Type} : DataW H → Nat
  | .lit (.string bytes) => bytes.length + 1
  | .lit _ => 1
  | .nil => 1
  | .ptr d => uptoBulk d + 1
  | .slice elems spare => uptoBulkAll elems + uptoBulkAll spare + 1
  | .agg parts => uptoBulkAll parts + 1
  | .iface _ d => uptoBulk d + 1
  | .map entries => uptoBulkEntries entries + 1
  | .held _ => 1
def uptoBulkAll {H : Type} : List (DataW H) → Nat
  | [] => 0
  | d :: r => uptoBulk d + uptoBulkAll r
def uptoBulkEntries {H : Type} : List (Lit × DataW H) → Nat
  | [] => 0
  | x :: r => uptoBulkEntry x + uptoBulkEntries r
def uptoBulkEntry {H : Type} : Lit × DataW H → Nat
  | (.string bytes, d) => bytes.length + uptoBulk d + 1
  | (_, d) => uptoBulk d + 1
 end
def uptoSmall : (H : Type) → List (DataW H) → Bool := fun _ ds => decide (uptoBulkAll ds ≤ 1048576)
def OpenSpec.upto (s : _root_.Go.ChangeSpec) : _root_.Go.OpenSpec := { _root_.Go.OpenSpec.ofChange s with cond := some uptoSmall }

/-- 'limnerlaw04.AffineApplies', WHERE WHAT IT READS IS OF BULK AT MOST 1048576: true; the input reads as it did. -/
def affineAppliesUptoRow : OpenClaim := { program := "yticoklfgmflidaadoor", sum := "0fbc5881125abfc960dcd7174e383a5a5f8a22243ee14f1c58d243a3a7e56cde", func := "limner/limnerlaw04.AffineApplies", spec := "affineApplies", named := ["limner/affine.quarters"], apart := false, laid := [("limner/affine.quarters", laid_limner_affine_quarters)], narrowed := true }
def AffineAppliesUptoSaid : Prop := affineAppliesUptoRow.holds Tryd.pinned (OpenSpec.upto affineAppliesSpec)

/-- 'limnerlaw04.AffineJoins', WHERE WHAT IT READS IS OF BULK AT MOST 1048576: true; the input reads as it did. -/
def affineJoinsUptoRow : OpenClaim := { program := "yticoklfgmflidaadoor", sum := "0fbc5881125abfc960dcd7174e383a5a5f8a22243ee14f1c58d243a3a7e56cde", func := "limner/limnerlaw04.AffineJoins", spec := "affineJoins", named := ["limner/affine.quarters"], apart := false, laid := [("limner/affine.quarters", laid_limner_affine_quarters)], narrowed := true }
def AffineJoinsUptoSaid : Prop := affineJoinsUptoRow.holds Tryd.pinned (OpenSpec.upto affineJoinsSpec)

/-- 'limnerlaw04.AffineNear', WHERE WHAT IT READS IS OF BULK AT MOST 1048576: true; the input reads as it did. -/
def affineNearUptoRow : OpenClaim := { program := "yticoklfgmflidaadoor", sum := "0fbc5881125abfc960dcd7174e383a5a5f8a22243ee14f1c58d243a3a7e56cde", func := "limner/limnerlaw04.AffineNear", spec := "affineNear", named := ["limner/affine.quarters"], apart := false, laid := [("limner/affine.quarters", laid_limner_affine_quarters)], narrowed := true }
def AffineNearUptoSaid : Prop := affineNearUptoRow.holds Tryd.pinned (OpenSpec.upto affineNearSpec)

/-- 'limnerlaw04.AffinePlain', WHERE WHAT IT READS IS OF BULK AT MOST 1048576: true; the input reads as it did. -/
def affinePlainUptoRow : OpenClaim := { program := "yticoklfgmflidaadoor", sum := "0fbc5881125abfc960dcd7174e383a5a5f8a22243ee14f1c58d243a3a7e56cde", func := "limner/limnerlaw04.AffinePlain", spec := "affinePlain", named := ["limner/affine.quarters"], apart := false, laid := [("limner/affine.quarters", laid_limner_affine_quarters)], narrowed := true }
def AffinePlainUptoSaid : Prop := affinePlainUptoRow.holds Tryd.pinned (OpenSpec.upto affinePlainSpec)

/-- 'limnerlaw04.AffineBounds', WHERE WHAT IT READS IS OF BULK AT MOST 1048576: true; the input reads as it did. -/
def affineBoundsUptoRow : OpenClaim := { program := "yticoklfgmflidaadoor", sum := "0fbc5881125abfc960dcd7174e383a5a5f8a22243ee14f1c58d243a3a7e56cde", func := "limner/limnerlaw04.AffineBounds", spec := "affineBounds", named := ["limner/affine.quarters"], apart := false, laid := [("limner/affine.quarters", laid_limner_affine_quarters)], narrowed := true }
def AffineBoundsUptoSaid : Prop := affineBoundsUptoRow.holds Tryd.pinned (OpenSpec.upto affineBoundsSpec)

/-- 'limnerlaw04.AffineDets', WHERE WHAT IT READS IS OF BULK AT MOST 1048576: true; the input reads as it did. -/
def affineDetsUptoRow : OpenClaim := { program := "yticoklfgmflidaadoor", sum := "0fbc5881125abfc960dcd7174e383a5a5f8a22243ee14f1c58d243a3a7e56cde", func := "limner/limnerlaw04.AffineDets", spec := "affineDets", inPlace := ["math/bits.Sub64"], named := ["limner/affine.quarters"], apart := false, laid := [("limner/affine.quarters", laid_limner_affine_quarters)], narrowed := true }
def AffineDetsUptoSaid : Prop := affineDetsUptoRow.holds Tryd.pinned (OpenSpec.upto affineDetsSpec)

end Rows
end Go.Proofs.YticoklfgmflidaaDoor
