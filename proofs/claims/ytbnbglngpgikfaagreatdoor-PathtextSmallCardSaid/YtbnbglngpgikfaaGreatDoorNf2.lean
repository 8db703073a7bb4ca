/- The frame of the statements on texts: what the listed variables give. -/
import Derived.Test.YtbnbglngpgikfaaGreatDoorNf
import Derived.Test.YtbnbglngpgikfaaGreatDoorNp2
import Derived.LaidLaws
namespace Go.Proofs.YtbnbglngpgikfaaGreatDoor
open Go.RowKit
def synD : DataW Unit := Rows.laid_strconv_ErrSyntax
def rngD : DataW Unit := Rows.laid_strconv_ErrRange
theorem tSyn : (Tryz.prog.globals[7]?).map (·.type) = some 82 := by kernel_rfl
theorem tRng : (Tryz.prog.globals[8]?).map (·.type) = some 82 := by kernel_rfl
theorem iface_of_reads {W : World} {n name : String} {d : DataW Unit} {g : Nat} (hg : Tryz.prog.globalNamed n = some g) (ht : (Tryz.prog.globals[g]?).map (·.type) = some 82)
    (h : Lib.VarReads Tryz.prog W n (.iface name d)) : ∃ t p, W.var? Tryz.prog n = some #[.iface t p] := by
  obtain ⟨g', t', cs, fuel, p, hg', ht', hvar, hd⟩ := h
  obtain rfl := Option.some.inj (hg.symm.trans hg')
  obtain rfl := Option.some.inj (ht.symm.trans ht')
  obtain ⟨_, u, v, hc, _, _⟩ := iface_of_trod Tryz.underlying82 hd
  exact ⟨u, v, by rw [hvar, Array.eq_one_of_toList hc]⟩
theorem rd2_of {l : List (String × DataW Unit)} {W : World} (hp : (l.all fun x => x.2.handleName?.isNone) = true) (hm : ("internal/strconv.uint64pow10", powD) ∈ l)
    (hs : ("strconv.ErrSyntax", synD) ∈ l) (hr : ("strconv.ErrRange", rngD) ∈ l) (h : laidMetH Tryz.prog l W) (hshape : W.ShapedOpen Tryz.prog) : Rd2 W := by
  refine ⟨rdF_of hp hm h, ?_, ?_, Tryz.laysM145.s1_3 W hshape⟩
  · rw [MakeChecks.laidMetH_plain _ _ _ hp] at h
    exact iface_of_reads gSyn tSyn (Lib.laidMet.reads h hs)
  · rw [MakeChecks.laidMetH_plain _ _ _ hp] at h
    exact iface_of_reads gRng tRng (Lib.laidMet.reads h hr)
end Go.Proofs.YtbnbglngpgikfaaGreatDoor

