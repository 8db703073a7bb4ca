/- The frame of every statement of this seat: the witness, what the listed variables give, and the step from the contract to the row. -/
import Derived.Test.YtbnbglngpgikfaaGreatDoorCards
import Derived.Test.YtbnbglngpgikfaaGreatDoorTie
import Derived.Test.YtbnbglngpgikfaaGreatDoorNc
import Derived.ProofKit
import Derived.OpenShut
import Derived.Deep.DeepHandedRow
import Derived.Lib.LaidTab
import Derived.Lib.LaidU8
import Derived.Lay
namespace Go.Proofs.YtbnbglngpgikfaaGreatDoor
open Go.ChangeShapes Go.WideShapes Go.ChangeAt Go.RowKit

theorem tabIs_of_reads {W : World} {name : String} {k : IntKind} {zs : List Int} {g : Nat} {t e : TypeId} {n : Nat}
    (hg : Tryz.prog.globalNamed name = some g) (hty : (Tryz.prog.globals[g]?).map (·.type) = some t) (ht : Tryz.prog.underlying t = some (.array n e)) (he : Tryz.prog.underlying e = some (.int k)) (hce : Tryz.prog.cellsOf e = 1) (hct : Tryz.prog.cellsOf t = n)
    (h : Lib.VarReads Tryz.prog W name (Lib.tabData k zs)) : Lib.TabIs Tryz.prog W name k zs := by
  obtain ⟨g', t', cs, fuel, p, hg', ht', hvar, hd⟩ := h
  obtain rfl := Option.some.inj (hg.symm.trans hg')
  obtain rfl := Option.some.inj (hty.symm.trans ht')
  unfold Lib.TabIs
  rw [hvar, ← Lib.cells_of_tab ht he hce hct hd]
def powD : DataW Unit := Rows.laid_internal_strconv_uint64pow10
theorem powD_eq : powD = Lib.tabData .u64 Lib.pow10Tab := by kernel_rfl
theorem gPow : Tryz.prog.globalNamed "internal/strconv.uint64pow10" = some 2 := by kernel_rfl
theorem gPowT : (Tryz.prog.globals[2]?).map (·.type) = some 127 := by kernel_rfl
theorem cellsArr : Tryz.prog.cellsOf 127 = 20 := by kernel_rfl
theorem cellsU64 : Tryz.prog.cellsOf 111 = 1 := by kernel_rfl
/-- What a row's list gives the walks. -/
theorem rdF_of {l : List (String × DataW Unit)} {W : World} (hp : (l.all fun x => x.2.handleName?.isNone) = true) (hm : ("internal/strconv.uint64pow10", powD) ∈ l) (h : laidMetH Tryz.prog l W) : RdF W := by
  rw [MakeChecks.laidMetH_plain _ _ _ hp] at h
  exact tabIs_of_reads gPow gPowT Tryz.underlying127 Tryz.underlying111 cellsU64 cellsArr (powD_eq ▸ Lib.laidMet.reads h hm)
end Go.Proofs.YtbnbglngpgikfaaGreatDoor

