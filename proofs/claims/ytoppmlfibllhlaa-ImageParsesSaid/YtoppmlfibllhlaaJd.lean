/- Layer 11: what package image answers: images told, Check, Right, Fill. -/
import Derived.Test.YtoppmlfibllhlaaId
namespace Go.Proofs.Ytoppmlfibllhlaa
open Go.RowKit
def ToldIm (w : World) (W H : Int) (l : List Col) (z : Int) (e : Ending) (w' : World) : Prop := ∃ v, e = .returned (.tuple #[.agg #[.int .i64 W, .int .i64 H, v], .int .i64 z]) ∧ RowK .u8 w' v l ∧ Below w.heap.size w w'
/-- A slice whose length does not exceed its capacity. -/
def CapS (s : Value) : Prop := ∀ a n c, s = .slice a n c → n ≤ c
def AwakeOk : Prop := ∀ w : World, Calls Try.prog 10 #[] w fun e w' => e = .returned (.bool true) ∧ Below w.heap.size w w'
def RightOk : Prop := ∀ (c : Col) (w : World), OkC c → Calls Try.prog 16 #[.agg #[.int .u8 (c 0), .int .u8 (c 1), .int .u8 (c 2), .int .u8 (c 3)]] w fun e w' => e = .returned (.bool (rightC c)) ∧ Below w.heap.size w w'
def errIm (b : Bool) : Int := if b then 0 else 30
def CheckOk : Prop := ∀ (W H : Int) (s : Value) (l : List Col) (w : World), RowK .u8 w s l → (∀ c ∈ l, OkC c) → l.length ≤ 70000 → Calls Try.prog 15 #[.agg #[.int .i64 W, .int .i64 H, s]] w fun e w' => e = .returned (.int .i64 (errIm (rightIm W H l))) ∧ Below w.heap.size w w'
/-- Fill's answer. -/
def fillW (W H : Int) (l : List Col) (c : Col) : Bool := rightIm W H l && rightC c
def FillOk : Prop := ∀ (W H x0 y0 x1 y1 : Int) (s : Value) (l : List Col) (c : Col) (w : World), RowK .u8 w s l → (∀ c ∈ l, OkC c) → OkC c → l.length ≤ 70000 →
  Calls Try.prog 12 #[.agg #[.int .i64 W, .int .i64 H, s], .agg #[.int .i64 x0, .int .i64 y0, .int .i64 x1, .int .i64 y1], .agg #[.int .u8 (c 0), .int .u8 (c 1), .int .u8 (c 2), .int .u8 (c 3)]] w fun e w' => (fillW W H l c = true → ToldIm w W H (fillL W x0 y0 x1 y1 c l l.length) 0 e w') ∧ (fillW W H l c = false → ToldIm w 0 0 [] 30 e w')
end Go.Proofs.Ytoppmlfibllhlaa
