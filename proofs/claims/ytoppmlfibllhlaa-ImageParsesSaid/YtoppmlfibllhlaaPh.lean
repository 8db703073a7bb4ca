/- Layer 10: what package paint answers; the laws' ref, is, awake. -/
import Derived.Test.YtoppmlfibllhlaaPg
import Derived.BigQuiet
namespace Go.Proofs.Ytoppmlfibllhlaa
open Go.RowKit
def col4 (a b c d : Int) : Col := fun i => match i with | 0 => a | 1 => b | 2 => c | _ => d
def ofP (a b : Int) : Int := if 0 ≤ a ∧ a ≤ 255 ∧ 0 ≤ b ∧ b ≤ 255 then ofI a b else 0
def straightC (r g b a : Int) : Col := fadeC (col4 r g b 255) a
def clampI (n hi : Int) : Int := min (max n 0) hi
def zeroC : Col := fun _ => 0
def blendP (c d : Col) (m : Int) : Col := if 0 ≤ m ∧ m ≤ 4 then (if rightC c && rightC d then blendC c d m else zeroC) else zeroC
def blendE (c d : Col) (m : Int) : Int := if 0 ≤ m ∧ m ≤ 4 then (if rightC c && rightC d then 0 else 30) else 33
def byteI (x : Int) : Prop := 0 ≤ x ∧ x ≤ 255
theorem col4_ok {a b c d : Int} (ha : byteI a) (hb : byteI b) (hc : byteI c) (hd : byteI d) : OkC (col4 a b c d) := fun i hi => by
  match i, hi with
  | 0, _ => exact ha
  | 1, _ => exact hb
  | 2, _ => exact hc
  | 3, _ => exact hd
end Go.Proofs.Ytoppmlfibllhlaa

