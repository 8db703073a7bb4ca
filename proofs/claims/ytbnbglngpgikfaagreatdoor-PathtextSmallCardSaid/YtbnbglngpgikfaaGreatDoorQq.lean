/- Layer 15: package pathtext: Parse. -/
import Derived.Test.YtbnbglngpgikfaaGreatDoorQp
namespace Go.Proofs.YtbnbglngpgikfaaGreatDoor
open Go.RowKit Go.Shelf
attribute [local go_sem] Oper.semAt_some
theorem show_c (u : Value) (l : List Sg) (w : World) (hr : Rdd w) (row : RowS w u l) : Calls Tryz.prog 9 #[u] w fun e w' => e = .returned (.tuple #[.string ⟨(if checkI l = 0 then showT l else []).toArray⟩, .int .i64 (checkI l)]) ∧ Below w.heap.size w w' := by
  by_cases h : checkI l = 0
  · rw [if_pos h, h]; exact show_yes u l w hr row h
  · rw [if_neg h]; exact show_no u l w hr row h
/-- The path whose text it is. -/
def parseT (s : Wd) : List Sg := if (readT s).2.2 = 0 ∧ showT (readT s).1 = s then (readT s).1 else []
def parseE (s : Wd) : Int := if (readT s).2.2 = 0 ∧ showT (readT s).1 = s then 0 else 20
theorem Rdd.on {w w' : World} (h : Rdd w) (hb : Below w.heap.size w w') : Rdd w' := ⟨h.1.on hb, h.2.on hb⟩
def ParseQ (w : World) (l : List Sg) (x : Int) (e : Ending) (w' : World) : Prop := ∃ u, e = .returned (.tuple #[u, .int .i64 x]) ∧ OwnS w' w.heap.size 53 u l ∧ Below w.heap.size w w'
theorem parseQ_form {w : World} {l l' : List Sg} {x x' : Int} {e : Ending} {w' : World} (hl : l = l') (hx : x = x') (h : ParseQ w l' x' e w') : ParseQ w l x e w' := by rw [hl, hx]; exact h
set_option maxHeartbeats 4000000 in
set_option maxRecDepth 100000 in
theorem ParseP_c (s : Wd) (w : World) (hr : Rdd w) (hl : s.length ≤ 4000000) : Calls Tryz.prog 12 #[.string ⟨s.toArray⟩] w (ParseQ w (parseT s) (parseE s)) := by
  have HRD := Lib.hid (Read_c s w hr hl)
  have HR := Lib.hid hr
  obtain ⟨L, a, x, hx⟩ : ∃ L a x, readT s = (L, a, x) := ⟨_, _, _, rfl⟩
  have HX := Lib.hid hx
  have HPT : Hid (parseT s = if x = 0 ∧ showT L = s then L else []) := by unfold Hid parseT; rw [hx]
  have HPE : Hid (parseE s = if x = 0 ∧ showT L = s then 0 else 20) := by unfold Hid parseE; rw [hx]
  rw [hx] at HRD
  clear hr hl hx
  by_cases h0 : x = 0
  · subst h0
    have HCK : Hid (checkI L = 0) := readT_right HX.out
    by_cases ht : showT L = s
    · have HT := Lib.hid ht
      clear ht
      go_enter Tryz.func12, Tryz.ntmps12
      go_wp2_with fail
      refine HRD.out.mono ?_
      rintro e w1 ⟨u, rfl, ho, hb⟩
      have H1 := Lib.hid (And.intro ho hb)
      have HSH := Lib.hid (show_yes u L w1 (HR.out.on hb) ho.row HCK.out)
      rw [HT.out] at HSH
      obtain ⟨ua, uc, rfl⟩ := ho.row.shape
      obtain ⟨un, hun⟩ : ∃ n, L.length = n := ⟨_, rfl⟩
      rw [hun] at HSH H1 ⊢
      clear ho hb hun
      go_wp2_with fail
      refine HSH.out.mono ?_
      rintro e w2 ⟨rfl, hb2⟩
      have H2 := Lib.hid hb2
      clear hb2
      go_wp2_with fail
      go_ret2
      exact parseQ_form (by rw [HPT.out, if_pos (by first | exact ⟨rfl, HT.out⟩ | exact ⟨trivial, HT.out⟩)]) (by rw [HPE.out, if_pos (by first | exact ⟨rfl, HT.out⟩ | exact ⟨trivial, HT.out⟩)]) ⟨_, rfl, H1.out.1.grow H2.out, below_next H1.out.2 H2.out⟩
    · have hbq : (showT L == s) = false := by simpa using ht
      have HT := Lib.hid ht
      clear ht
      go_enter Tryz.func12, Tryz.ntmps12
      go_wp2_with fail
      refine HRD.out.mono ?_
      rintro e w1 ⟨u, rfl, ho, hb⟩
      have H1 := Lib.hid (And.intro ho hb)
      have HSH := Lib.hid (show_yes u L w1 (HR.out.on hb) ho.row HCK.out)
      obtain ⟨t, hte⟩ : ∃ t, showT L = t := ⟨_, rfl⟩
      rw [hte] at HSH hbq
      obtain ⟨ua, uc, rfl⟩ := ho.row.shape
      obtain ⟨un, hun⟩ : ∃ n, L.length = n := ⟨_, rfl⟩
      rw [hun] at HSH H1 ⊢
      clear ho hb hun hte
      go_wp2_with fail
      refine HSH.out.mono ?_
      rintro e w2 ⟨rfl, hb2⟩
      have H2 := Lib.hid hb2
      clear hb2
      go_wp2_with fail
      go_ret2
      exact parseQ_form (by rw [HPT.out, if_neg (fun h => HT.out h.2)]) (by rw [HPE.out, if_neg (fun h => HT.out h.2)]) ⟨_, rfl, OwnS.nil _ _ _, below_next H1.out.2 H2.out⟩
  · have hne : (x != 0) = true := by simpa using h0
    have HT := Lib.hid h0
    clear h0
    go_enter Tryz.func12, Tryz.ntmps12
    go_wp2_with fail
    refine HRD.out.mono ?_
    rintro e w1 ⟨u, rfl, ho, hb⟩
    have H1 := Lib.hid hb
    dsimp only
    clear ho hb
    go_wp2_with fail
    go_ret2
    exact parseQ_form (by rw [HPT.out, if_neg (fun h => HT.out h.1)]) (by rw [HPE.out, if_neg (fun h => HT.out h.1)]) ⟨_, rfl, OwnS.nil _ _ _, H1.out⟩
end Go.Proofs.YtbnbglngpgikfaaGreatDoor
