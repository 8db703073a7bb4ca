/-
  No cell of these rows narrows 'for every input' (looked for: loops, veiled, ifaces, maps, wideKeys, modest, calm, conditions, laid).
  DERIVED. THE GIVEN ROWS OF THIS SEAT. 6 by the template 'for every input the law returns true; each argument reads behind the call as it read before'; 0 by the template 'total and deterministic' (their statements: YthlealndopppaaaTotals.lean).
  GIVEN WITH THE SEED: the statements are not yours to turn. If you find one false, say at which input.
  Laid BY PROGRAM, IN A SANDBOX (cutbox-rows.mjs): the forced cells as the released guide's own fill.sh prints them over the translation 8686153a70fd4df2… (all of the seat's roots in one cut). By AI agents, Wed Nov 11 2026. No macro, syntax, notation, axiom, sorry.
-/
import Derived.Test.YthlealndopppaaaChecked
import GoSem.Claim
import GoSem.ClaimJoined
import GoSem.ClaimMapViews
import Derived.JoinedTies
import Derived.KernelRfl
namespace Go.Proofs.Ythlealndopppaaa
/- THE CELL 'sum', in the pinned program and in every row, IS THE sha256 OF THE DUMP (.gsa) THAT YthlealndopppaaaProg.lean LOADS. Nothing in Lean hashes anything: it is a label: what it is worth is what the hold of that sum in a sandbox is worth. -/
noncomputable def Try.pinned : Pinned := { name := "ythlealndopppaaa", sum := "8686153a70fd4df2461ef8b1f73cada67cbe20ec2a465fc388946605482c482f", checked := Try.checked }
namespace Rows
def none {H : Type} : Left H := { results := [], args := [] }

/-- 'limnerlaw05.CurveHalves': WHATEVER THE INPUT: true; the input reads as it did. -/
def curveHalvesSpec : ChangeSpec := { name := "curveHalves", fn := fun _ => fun
  | [d] => { results := [.lit (.bool true)], args := [d] }
  | _ => none }
def curveHalvesRow : OpenClaim := { program := "ythlealndopppaaa", sum := "8686153a70fd4df2461ef8b1f73cada67cbe20ec2a465fc388946605482c482f", func := "limner/limnerlaw05.CurveHalves", spec := "curveHalves", apart := false }
def CurveHalvesSaid : Prop := curveHalvesRow.holds Try.pinned (OpenSpec.ofChange curveHalvesSpec)

/-- ITS FALSE NEIGHBOUR: 'it returns false'. Refute it at one input. -/
def curveHalvesWrong : ChangeSpec := { name := "curveHalves", fn := fun _ => fun
  | [d] => { results := [.lit (.bool false)], args := [d] }
  | _ => none }
def CurveHalvesWrongFalsely : Prop := curveHalvesRow.holds Try.pinned (OpenSpec.ofChange curveHalvesWrong)

/-- 'limnerlaw05.CurveFlats': WHATEVER THE INPUT: true; the input reads as it did. -/
def curveFlatsSpec : ChangeSpec := { name := "curveFlats", fn := fun _ => fun
  | [d1, d2] => { results := [.lit (.bool true)], args := [d1, d2] }
  | _ => none }
def curveFlatsRow : OpenClaim := { program := "ythlealndopppaaa", sum := "8686153a70fd4df2461ef8b1f73cada67cbe20ec2a465fc388946605482c482f", func := "limner/limnerlaw05.CurveFlats", spec := "curveFlats", recurses := true, apart := false }
def CurveFlatsSaid : Prop := curveFlatsRow.holds Try.pinned (OpenSpec.ofChange curveFlatsSpec)

/-- ITS FALSE NEIGHBOUR: 'it returns false'. Refute it at one input. -/
def curveFlatsWrong : ChangeSpec := { name := "curveFlats", fn := fun _ => fun
  | [d1, d2] => { results := [.lit (.bool false)], args := [d1, d2] }
  | _ => none }
def CurveFlatsWrongFalsely : Prop := curveFlatsRow.holds Try.pinned (OpenSpec.ofChange curveFlatsWrong)

/-- 'limnerlaw05.CurveNear': WHATEVER THE INPUT: true; the input reads as it did. -/
def curveNearSpec : ChangeSpec := { name := "curveNear", fn := fun _ => fun
  | [d1, d2] => { results := [.lit (.bool true)], args := [d1, d2] }
  | _ => none }
def curveNearRow : OpenClaim := { program := "ythlealndopppaaa", sum := "8686153a70fd4df2461ef8b1f73cada67cbe20ec2a465fc388946605482c482f", func := "limner/limnerlaw05.CurveNear", spec := "curveNear", apart := false }
def CurveNearSaid : Prop := curveNearRow.holds Try.pinned (OpenSpec.ofChange curveNearSpec)

/-- ITS FALSE NEIGHBOUR: 'it returns false'. Refute it at one input. -/
def curveNearWrong : ChangeSpec := { name := "curveNear", fn := fun _ => fun
  | [d1, d2] => { results := [.lit (.bool false)], args := [d1, d2] }
  | _ => none }
def CurveNearWrongFalsely : Prop := curveNearRow.holds Try.pinned (OpenSpec.ofChange curveNearWrong)

/-- 'limnerlaw05.CurveBounds': WHATEVER THE INPUT: true; the input reads as it did. -/
def curveBoundsSpec : ChangeSpec := { name := "curveBounds", fn := fun _ => fun
  | [d1, d2] => { results := [.lit (.bool true)], args := [d1, d2] }
  | _ => none }
def curveBoundsRow : OpenClaim := { program := "ythlealndopppaaa", sum := "8686153a70fd4df2461ef8b1f73cada67cbe20ec2a465fc388946605482c482f", func := "limner/limnerlaw05.CurveBounds", spec := "curveBounds", apart := false }
def CurveBoundsSaid : Prop := curveBoundsRow.holds Try.pinned (OpenSpec.ofChange curveBoundsSpec)

/-- ITS FALSE NEIGHBOUR: 'it returns false'. Refute it at one input. -/
def curveBoundsWrong : ChangeSpec := { name := "curveBounds", fn := fun _ => fun
  | [d1, d2] => { results := [.lit (.bool false)], args := [d1, d2] }
  | _ => none }
def CurveBoundsWrongFalsely : Prop := curveBoundsRow.holds Try.pinned (OpenSpec.ofChange curveBoundsWrong)

/-- 'limnerlaw05.CurveParts': WHATEVER THE INPUT: true; the input reads as it did. -/
def curvePartsSpec : ChangeSpec := { name := "curveParts", fn := fun _ => fun
  | [d1, d2] => { results := [.lit (.bool true)], args := [d1, d2] }
  | _ => none }
def curvePartsRow : OpenClaim := { program := "ythlealndopppaaa", sum := "8686153a70fd4df2461ef8b1f73cada67cbe20ec2a465fc388946605482c482f", func := "limner/limnerlaw05.CurveParts", spec := "curveParts", apart := false }
def CurvePartsSaid : Prop := curvePartsRow.holds Try.pinned (OpenSpec.ofChange curvePartsSpec)

/-- ITS FALSE NEIGHBOUR: 'it returns false'. Refute it at one input. -/
def curvePartsWrong : ChangeSpec := { name := "curveParts", fn := fun _ => fun
  | [d1, d2] => { results := [.lit (.bool false)], args := [d1, d2] }
  | _ => none }
def CurvePartsWrongFalsely : Prop := curvePartsRow.holds Try.pinned (OpenSpec.ofChange curvePartsWrong)

/-- 'limnerlaw05.CurveLines': WHATEVER THE INPUT: true; the input reads as it did. -/
def curveLinesSpec : ChangeSpec := { name := "curveLines", fn := fun _ => fun
  | [d1, d2] => { results := [.lit (.bool true)], args := [d1, d2] }
  | _ => none }
def curveLinesRow : OpenClaim := { program := "ythlealndopppaaa", sum := "8686153a70fd4df2461ef8b1f73cada67cbe20ec2a465fc388946605482c482f", func := "limner/limnerlaw05.CurveLines", spec := "curveLines", apart := false }
def CurveLinesSaid : Prop := curveLinesRow.holds Try.pinned (OpenSpec.ofChange curveLinesSpec)

/-- ITS FALSE NEIGHBOUR: 'it returns false'. Refute it at one input. -/
def curveLinesWrong : ChangeSpec := { name := "curveLines", fn := fun _ => fun
  | [d1, d2] => { results := [.lit (.bool false)], args := [d1, d2] }
  | _ => none }
def CurveLinesWrongFalsely : Prop := curveLinesRow.holds Try.pinned (OpenSpec.ofChange curveLinesWrong)

/- THE SECOND FORM. 'bulk': how many values and letters a reading holds, each counted each time it is reached (what is shared counts as often as it is met; a slice's spare places count too). A statement '..UptoSaid' is the law's where the arguments, and the package variables that the reading takes, are together of bulk at most 1048576: NARROWER than '..Said'. Prove '..Said' where nothing that the law and all that it calls make is longer than what came in: it says more and counts as full. Else prove '..UptoSaid'. A law counts once. -/
mutual
def uptoBulk {H : Type} : DataW H → Nat
  | .lit (.string bytes) => bytes.length + 1
  | .lit _ => 1
  | .nil => 1
  | .ptr d => uptoBulk d + 1
  | .slice elems spare => uptoBulkAll elems + uptoBulkAll spare + 1
  | .agg parts => uptoBulkAll parts + 1
  | .iface _ d => uptoBulk d + 1
  | .map entries => uptoBulkEntries entries + 1
  | .held _ => 1
def uptoBulkAll {H : Type} : List (DataW H) → Nat
  | [] => 0
  | d :: r => uptoBulk d + uptoBulkAll r
def uptoBulkEntries {H : Type} : List (Lit × DataW H) → Nat
  | [] => 0
  | x :: r => uptoBulkEntry x + uptoBulkEntries r
def uptoBulkEntry {H : Type} : Lit × DataW H → Nat
  | (.string bytes, d) => bytes.length + uptoBulk d + 1
  | (_, d) => uptoBulk d + 1
 end
def uptoSmall : (H : Type) → List (DataW H) → Bool := fun _ ds => decide (uptoBulkAll ds ≤ 1048576)
def OpenSpec.upto (s : _root_.Go.ChangeSpec) : _root_.Go.OpenSpec := { _root_.Go.OpenSpec.ofChange s with cond := some uptoSmall }

/-- 'limnerlaw05.CurveHalves', WHERE WHAT IT READS IS OF BULK AT MOST 1048576: true; the input reads as it did. -/
def curveHalvesUptoRow : OpenClaim := { program := "ythlealndopppaaa", sum := "8686153a70fd4df2461ef8b1f73cada67cbe20ec2a465fc388946605482c482f", func := "limner/limnerlaw05.CurveHalves", spec := "curveHalves", apart := false, narrowed := true }
def CurveHalvesUptoSaid : Prop := curveHalvesUptoRow.holds Try.pinned (OpenSpec.upto curveHalvesSpec)

/-- 'limnerlaw05.CurveFlats', WHERE WHAT IT READS IS OF BULK AT MOST 1048576: true; the input reads as it did. -/
def curveFlatsUptoRow : OpenClaim := { program := "ythlealndopppaaa", sum := "8686153a70fd4df2461ef8b1f73cada67cbe20ec2a465fc388946605482c482f", func := "limner/limnerlaw05.CurveFlats", spec := "curveFlats", recurses := true, apart := false, narrowed := true }
def CurveFlatsUptoSaid : Prop := curveFlatsUptoRow.holds Try.pinned (OpenSpec.upto curveFlatsSpec)

/-- 'limnerlaw05.CurveNear', WHERE WHAT IT READS IS OF BULK AT MOST 1048576: true; the input reads as it did. -/
def curveNearUptoRow : OpenClaim := { program := "ythlealndopppaaa", sum := "8686153a70fd4df2461ef8b1f73cada67cbe20ec2a465fc388946605482c482f", func := "limner/limnerlaw05.CurveNear", spec := "curveNear", apart := false, narrowed := true }
def CurveNearUptoSaid : Prop := curveNearUptoRow.holds Try.pinned (OpenSpec.upto curveNearSpec)

/-- 'limnerlaw05.CurveBounds', WHERE WHAT IT READS IS OF BULK AT MOST 1048576: true; the input reads as it did. -/
def curveBoundsUptoRow : OpenClaim := { program := "ythlealndopppaaa", sum := "8686153a70fd4df2461ef8b1f73cada67cbe20ec2a465fc388946605482c482f", func := "limner/limnerlaw05.CurveBounds", spec := "curveBounds", apart := false, narrowed := true }
def CurveBoundsUptoSaid : Prop := curveBoundsUptoRow.holds Try.pinned (OpenSpec.upto curveBoundsSpec)

/-- 'limnerlaw05.CurveParts', WHERE WHAT IT READS IS OF BULK AT MOST 1048576: true; the input reads as it did. -/
def curvePartsUptoRow : OpenClaim := { program := "ythlealndopppaaa", sum := "8686153a70fd4df2461ef8b1f73cada67cbe20ec2a465fc388946605482c482f", func := "limner/limnerlaw05.CurveParts", spec := "curveParts", apart := false, narrowed := true }
def CurvePartsUptoSaid : Prop := curvePartsUptoRow.holds Try.pinned (OpenSpec.upto curvePartsSpec)

/-- 'limnerlaw05.CurveLines', WHERE WHAT IT READS IS OF BULK AT MOST 1048576: true; the input reads as it did. -/
def curveLinesUptoRow : OpenClaim := { program := "ythlealndopppaaa", sum := "8686153a70fd4df2461ef8b1f73cada67cbe20ec2a465fc388946605482c482f", func := "limner/limnerlaw05.CurveLines", spec := "curveLines", apart := false, narrowed := true }
def CurveLinesUptoSaid : Prop := curveLinesUptoRow.holds Try.pinned (OpenSpec.upto curveLinesSpec)

end Rows
end Go.Proofs.Ythlealndopppaaa
