/- Layer 15: the statements' fixed answer. -/
import Derived.Test.YtbnbglngpgikfaaGreatDoorRa
namespace Go.Proofs.YtbnbglngpgikfaaGreatDoor
open Go.RowKit Go.Shelf
attribute [local go_sem] Oper.semAt_some
theorem text_digit (d : Nat) (h : d < 10) : textT (256 * (d : Int)) = [UInt8.ofNat (48 + d)] := by
  unfold textT
  rw [if_neg (by omega), show (256 * (d : Int)) / 256 = (d : Int) by omega, show (256 * (d : Int)) % 256 = 0 by omega, itoa_nat, Lib.decDigits_one h]
  rfl
theorem step_num0 {st : Rs} (hd : st.due = 0) (hn : 0 < needI st.s.k) {c : UInt8} (hc : letB c = false) (r : Wd) : stepR st (c :: r) = stepR (startR st st.s.k) (c :: r) := by
  have h1 : primeR st = startR st st.s.k := by unfold primeR; rw [if_pos hd]
  have h2 : primeR (startR st st.s.k) = startR st st.s.k := by unfold primeR; rw [if_neg (by show ¬ (2 * needI st.s.k = 0); omega)]
  rw [stepR, stepR, if_neg (by rw [hc]; decide), if_neg (by rw [hc]; decide), h1, h2]
def wakeT : Wd := [109, 49, 44, 50, 32, 51, 44, 52, 122]
def wakeL : List Sg := [⟨1, (256, 512), (0, 0), (0, 0)⟩, ⟨2, (1024, 1536), (0, 0), (0, 0)⟩, ⟨5, (0, 0), (0, 0), (0, 0)⟩]
theorem wake_check : checkI wakeL = 0 := by decide
theorem wake_words : wordsL wakeT = [[109], [49], [50], [51], [52], [122]] := by decide
theorem t1 : textT 256 = [49] := text_digit 1 (by decide)
theorem t2 : textT 512 = [50] := text_digit 2 (by decide)
theorem t3 : textT 768 = [51] := text_digit 3 (by decide)
theorem t4 : textT 1024 = [52] := text_digit 4 (by decide)
theorem t6 : textT 1536 = [54] := text_digit 6 (by decide)
def wk1 : Rs := startR { Rs.none with small := true } 1
def wk2 : Rs := { wk1 with s := setAt wk1.s 0 256, due := 1 }
def wk3 : Rs := finR { wk1 with s := setAt (setAt wk1.s 0 256) 1 512, due := 0 }
def wk4 : Rs := startR wk3 2
def wk5 : Rs := { wk4 with s := setAt wk4.s 0 1024, due := 1 }
def wk6 : Rs := finR { wk4 with s := setAt (setAt wk4.s 0 1024) 1 1536, due := 0 }
def wk7 : Rs := finR (startR { wk6 with small := true } 5)
theorem wake_read : readT wakeT = (wakeL, 6, 0) := by
  have s1 : stepR Rs.none [109] = .ok wk1 := by rfl
  have s2 : stepR wk1 [49] = .ok wk2 := by
    rw [← t1, step_num (by decide) 256 (by decide) (by decide)]; rfl
  have s3 : stepR wk2 [50] = .ok wk3 := by
    rw [← t2, step_num (by decide) 512 (by decide) (by decide)]; rfl
  have s4 : stepR wk3 [51] = .ok wk5 := by
    rw [step_num0 rfl (by decide) (by decide), ← t3]
    show stepR wk4 (textT 768) = _
    rw [step_num (by decide) 768 (by decide) (by decide)]; rfl
  have s5 : stepR wk5 [52] = .ok wk6 := by
    rw [← t4, step_num (by decide) 1024 (by decide) (by decide)]; rfl
  have s6 : stepR wk6 [122] = .ok wk7 := by rfl
  unfold readT
  rw [wake_words]
  simp only [readR, s1, s2, s3, s4, s5, s6]
  rfl
theorem wake_show : showT wakeL = [77, 32, 49, 32, 50, 32, 76, 32, 52, 32, 54, 32, 90] := by
  have e : showT wakeL = textUp wakeL := by unfold showT; rw [pathW_big, showT_up]
  rw [e]
  simp [wakeL, textUp, segT, Sg.pts, needI, ptT, letC, t1, t2, t4, t6]
set_option maxHeartbeats 4000000 in
set_option maxRecDepth 100000 in
theorem awake_c15 (w : World) (hr : Rdd w) : Calls Tryz.prog 8 #[] w fun e w' => e = .returned (.bool true) ∧ Below w.heap.size w w' := by
  have HRD := Lib.hid (Read_c wakeT w hr (by decide))
  rw [wake_read] at HRD
  have HR := Lib.hid hr
  clear hr
  go_enter Tryz.func8, Tryz.ntmps8
  go_wp2_with fail
  refine HRD.out.mono ?_
  rintro e w1 ⟨u, rfl, ho, hb⟩
  have H1 := Lib.hid hb
  have HSH := Lib.hid (show_yes u wakeL w1 (HR.out.on hb) ho.row wake_check)
  rw [wake_show] at HSH
  obtain ⟨ua, uc, rfl⟩ := ho.row.shape
  rw [show wakeL.length = 3 from rfl] at HSH ⊢
  clear ho hb
  dsimp only
  go_wp2_with fail
  refine HSH.out.mono ?_
  rintro e w2 ⟨rfl, hb2⟩
  have H2 := Lib.hid hb2
  clear hb2
  go_wp2_with fail
  go_ret
  exact ⟨rfl, below_next H1.out H2.out⟩
end Go.Proofs.YtbnbglngpgikfaaGreatDoor
