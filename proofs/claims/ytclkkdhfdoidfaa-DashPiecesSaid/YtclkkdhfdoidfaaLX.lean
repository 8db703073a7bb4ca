/- Layer 9: the law DashPieces, put together. -/
import Derived.Test.YtclkkdhfdoidfaaLV
namespace Go.Proofs.Ytclkkdhfdoidfaa
open Go.RowKit
theorem dashPieces_law (sv : Value) (l : List Pt) (cl : Bool) (Lv : Value) (L : List Int) (phase : Int) (w : World) (row : Row w sv l) (rowL : RowI w Lv L) :
    Calls Try.prog 6 #[.agg #[sv, .bool cl], .agg #[Lv, .int .i64 phase]] w fun e w' => e = .returned (.bool true) ∧ Below w.heap.size w w' := by
  by_cases h20 : l.length ≤ 20
  case neg => exact dashPieces_big sv l cl Lv L phase w row rowL (.inl (by omega))
  by_cases h8 : L.length ≤ 20
  case neg => exact dashPieces_big sv l cl Lv L phase w row rowL (.inr (by omega))
  cases hr : rightI L phase
  case false => exact dashPieces_refused sv l cl Lv L phase w row rowL h20 h8 (.inl hr)
  cases hro : l.all roomP
  case false => exact dashPieces_refused sv l cl Lv L phase w row rowL h20 h8 (.inr hro)
  cases hlo : longB (wayI l cl)
  case true => exact dashPieces_long sv l cl Lv L phase w row rowL h20 h8 hr hro hlo
  by_cases hne : l = []
  case pos => subst hne; exact dashPieces_nil sv cl Lv L phase w row rowL h8 hr
  by_cases hL0 : L = []
  case pos => exact dashPieces_plain sv l cl Lv L phase w row rowL h20 h8 hr hro hlo hne hL0
  have hw0 : 0 < (wayI l cl).length := List.length_pos_iff.2 (fun e => hne (wayI_nil_iff.1 e))
  by_cases hw1 : (wayI l cl).length = 1
  case pos => exact dashPieces_one sv l cl Lv L phase w row rowL h20 h8 hr hro hlo hL0 hw1
  by_cases hmy : 4096 < (piecesI (patS L phase) (wayI l cl)).length
  case pos => exact dashPieces_many sv l cl Lv L phase w row rowL h20 h8 hr hro hlo hL0 (by omega) hmy
  exact dashPieces_more sv l cl Lv L phase w row rowL h20 h8 hr hro hlo hL0 (by omega) hmy
end Go.Proofs.Ytclkkdhfdoidfaa
