/- Layer 8: bytes as texts; polygons that are moved by whole pixels. -/
import Derived.Test.YtopngjpgikpmaaaLM
import Derived.Laws.IdiomStrings
import Derived.Laws.BytesString
namespace Go.Proofs.Ytopngjpgikpmaaa
open Go.RowKit
/-- The text of some bytes. -/
def strB (M : List Nat) : ByteArray := ⟨(M.map UInt8.ofNat).toArray⟩
theorem conv_row {w : World} {v : Value} {M : List Nat} (h : VRow w v (bytesL M)) (hM : ∀ m ∈ M, m ≤ 255) : (convert 29 9 v).run Try.prog w = .ok (.string (strB M)) w := by
  have zero : ∀ (p : Option Addr) (c : Nat), (convert 29 9 (.slice p 0 c)).run Try.prog w = .ok (.string (strB [])) w := fun p c => by
    rw [run_convert_bytes_string w _ _ 5 p 0 c Try.underlying29 Try.underlying5 Try.underlying9]
    cases p <;> simp [Conv.bytesToString, loadCells] <;> rfl
  rcases h with ⟨rfl, h⟩ | ⟨a, c, rfl, h⟩ | ⟨b, o, c, rfl, hb, hc⟩
  · have : M = [] := by unfold bytesL at h; simpa using h
    subst this; exact zero _ _
  · have : M = [] := by unfold bytesL at h; simpa using h
    subst this; exact zero _ _
  · rw [bytes_length]
    have key := run_convert_bytes_back (P := Try.prog) w 29 9 5 ⟨b, o, none⟩ c (M.map UInt8.ofNat) Try.underlying29 Try.underlying5 Try.underlying9 (fun j hj => ?_)
    · rw [List.length_map] at key
      exact key
    · rw [List.length_map] at hj
      rw [show (⟨b, o, none⟩ : Addr).add j = ⟨b, o + j, none⟩ from Addr.add_lit .., hc j (.int .u8 ((M[j] : Nat) : Int)) (by unfold bytesL; rw [List.getElem?_map, List.getElem?_eq_getElem hj]; rfl), List.getElem_map]
      have := hM M[j] (List.getElem_mem hj)
      have e : (UInt8.ofNat M[j]).toNat = M[j] := by rw [UInt8.toNat_ofNat']; omega
      rw [e]
/-- A point that is moved by whole pixels. -/
def shiftP (d p : Pt) : Pt := (p.1 + 256 * d.1, p.2 + 256 * d.2)
theorem cnt_shift (d p q s : Pt) : cntP (shiftP d p) (shiftP d q) (shiftP d s) = cntP p q s := by
  have e1 : ∀ a b c : Int, (a + c) - (b + c) = a - b := fun a b c => by omega
  unfold cntP cnt sideI shiftP
  simp only [e1, Int.add_le_add_iff_right, Int.add_lt_add_iff_right]
theorem wfold_shift (d s : Pt) (l : List Pt) : ∀ st : Pt × Int, ((l.map (shiftP d)).foldl (wstep (shiftP d s)) (shiftP d st.1, st.2)) = (shiftP d (l.foldl (wstep s) st).1, (l.foldl (wstep s) st).2) := by
  induction l with
  | nil => intro st; rfl
  | cons q l ih =>
    intro st
    rw [List.map_cons, List.foldl_cons, List.foldl_cons]
    have := ih (wstep s st q)
    rw [← this]
    congr 1
    unfold wstep
    simp only
    rw [cnt_shift]
theorem winds_shift (d s : Pt) (l : List Pt) : windsI (l.map (shiftP d)) (shiftP d s) = windsI l s := by
  unfold windsI
  rw [List.getLast?_map]
  cases l.getLast? with
  | none => rfl
  | some p =>
    simp only [Option.map_some]
    rw [wfold_shift d s l (p, 0)]
theorem times_shift (d s : Pt) (P : List (List Pt)) : timesI (P.map fun l => l.map (shiftP d)) (shiftP d s) = timesI P s := by
  unfold timesI
  rw [List.foldl_map]
  simp only [winds_shift]
theorem samp_shift (d : Pt) (x y : Int) (i : Nat) : sampP (x + d.1) (y + d.2) i = shiftP d (sampP x y i) := by
  unfold sampP shiftP
  simp only [Prod.mk.injEq]
  omega
theorem count_shift (d : Pt) (P : List (List Pt)) (rule x y : Int) : countI (P.map fun l => l.map (shiftP d)) rule (x + d.1) (y + d.2) = countI P rule x y := by
  unfold countI insideI
  refine List.countP_congr fun i _ => ?_
  rw [samp_shift, times_shift]
theorem mask_shift (d : Pt) (P : List (List Pt)) (rule : Int) (b : Bx) : maskI (P.map fun l => l.map (shiftP d)) rule ⟨b.x0 + d.1, b.y0 + d.2, b.x1 + d.1, b.y1 + d.2⟩ = maskI P rule b := by
  have e1 : acrossI ⟨b.x0 + d.1, b.y0 + d.2, b.x1 + d.1, b.y1 + d.2⟩ = acrossI b := by unfold acrossI; simp only; congr 1; omega
  have e2 : downI ⟨b.x0 + d.1, b.y0 + d.2, b.x1 + d.1, b.y1 + d.2⟩ = downI b := by unfold downI; simp only; congr 1; omega
  unfold maskI
  rw [e1, e2]
  refine List.map_congr_left fun k _ => ?_
  have := count_shift d P rule (b.x0 + ((k % acrossI b : Nat) : Int)) (b.y0 + ((k / acrossI b : Nat) : Int))
  rw [← this]
  congr 1
  · simp only; omega
  · simp only; omega
end Go.Proofs.Ytopngjpgikpmaaa
