/- The frame of the statements on texts: what the listed variables give. -/
import Derived.Test.YthejffimgdoapaaDoorF
import Derived.Test.YthejffimgdoapaaDoorP2
import Derived.LaidLaws
namespace Go.Proofs.YthejffimgdoapaaDoor
open Go.RowKit
def synD : DataW Unit := Rows.laid_strconv_ErrSyntax
def rngD : DataW Unit := Rows.laid_strconv_ErrRange
theorem tSyn : (Tryd.prog.globals[2]?).map (·.type) = some 45 := by kernel_rfl
theorem tRng : (Tryd.prog.globals[3]?).map (·.type) = some 45 := by kernel_rfl
theorem iface_of_reads {W : World} {n name : String} {d : DataW Unit} {g : Nat} (hg : Tryd.prog.globalNamed n = some g) (ht : (Tryd.prog.globals[g]?).map (·.type) = some 45)
    (h : Lib.VarReads Tryd.prog W n (.iface name d)) : ∃ t p, W.var? Tryd.prog n = some #[.iface t p] := by
  obtain ⟨g', t', cs, fuel, p, hg', ht', hvar, hd⟩ := h
  obtain rfl := Option.some.inj (hg.symm.trans hg')
  obtain rfl := Option.some.inj (ht.symm.trans ht')
  obtain ⟨_, u, v, hc, _, _⟩ := iface_of_trod Tryd.underlying45 hd
  exact ⟨u, v, by rw [hvar, Array.eq_one_of_toList hc]⟩
theorem rd2_of {l : List (String × DataW Unit)} {W : World} (hp : (l.all fun x => x.2.handleName?.isNone) = true) (hm : ("internal/strconv.uint64pow10", powD) ∈ l)
    (hs : ("strconv.ErrSyntax", synD) ∈ l) (hr : ("strconv.ErrRange", rngD) ∈ l) (h : laidMetH Tryd.prog l W) (hshape : W.ShapedOpen Tryd.prog) : Rd2 W := by
  refine ⟨rd_of hp hm h, ?_, ?_, Tryd.laysM145.s1_3 W hshape⟩
  · rw [MakeChecks.laidMetH_plain _ _ _ hp] at h
    exact iface_of_reads gSyn tSyn (Lib.laidMet.reads h hs)
  · rw [MakeChecks.laidMetH_plain _ _ _ hp] at h
    exact iface_of_reads gRng tRng (Lib.laidMet.reads h hr)
end Go.Proofs.YthejffimgdoapaaDoor
