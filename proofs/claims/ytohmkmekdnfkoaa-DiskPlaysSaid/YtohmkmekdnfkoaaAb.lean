/- Layer 12: the document's disk in memory; Has, command. -/
import Derived.Test.YtohmkmekdnfkoaaAa
namespace Go.Proofs.Ytohmkmekdnfkoaa
open Go.RowKit
/-- The document's disk, behind its pointer: its seven cells. -/
def cellsD (sv : Value) (size : Int) (wv : Value) (left done : Int) (armed down : Bool) : Array Value := #[sv, .int .i64 size, wv, .int .i64 left, .int .i64 done, .bool armed, .bool down]
theorem Blk.d7 {w : World} {g : Nat} {sv wv : Value} {size left done : Int} {armed down : Bool} (h : Blk w g 31 (cellsD sv size wv left done armed down)) : w.cell? ⟨g, 0, none⟩ = some sv ∧ w.cell? ⟨g, 1, none⟩ = some (.int .i64 size) ∧ w.cell? ⟨g, 2, none⟩ = some wv ∧ w.cell? ⟨g, 3, none⟩ = some (.int .i64 left) ∧ w.cell? ⟨g, 4, none⟩ = some (.int .i64 done) ∧ w.cell? ⟨g, 5, none⟩ = some (.bool armed) ∧ w.cell? ⟨g, 6, none⟩ = some (.bool down) :=
  ⟨h.cell 0, h.cell 1, h.cell 2, h.cell 3, h.cell 4, h.cell 5, h.cell 6⟩
/-- Has the disk such a sector? -/
def hasI (sn : Nat) (size i : Int) : Bool := decide (i ≥ 0) && decide (i < (sn : Int) / size)
set_option maxHeartbeats 4000000 in
set_option maxRecDepth 100000 in
theorem refHas_true (g : Nat) (sa : Option Addr) (sn sc : Nat) (size i : Int) (wv : Value) (left done : Int) (armed down : Bool) (w : World) (K : Blk w g 31 (cellsD (.slice sa sn sc) size wv left done armed down)) (hs : 1 ≤ size) (hn : sn ≤ 3000000) (hi : decide (i ≥ 0) = true) :
    Calls Try.prog 26 #[.pointer (some ⟨g, 0, none⟩), .int .i64 i] w fun e w' => e = .returned (.bool (hasI sn size i)) ∧ Below w.heap.size w w' := by
  have HB : Hid (∀ A, Below w.heap.size w A → Blk A g 31 (cellsD (.slice sa sn sc) size wv left done armed down)) := fun A hA => K.grow hA
  obtain ⟨q, hq⟩ : ∃ q, (sn : Int) / size = q := ⟨_, rfl⟩
  have hq0 : 0 ≤ q ∧ q ≤ sn := by rw [← hq]; exact ⟨Int.ediv_nonneg (by omega) (by omega), Int.ediv_le_self _ (by omega)⟩
  have HQ : Hid ((sn : Int).tdiv size = q ∧ (size == 0) = false ∧ ¬ size = 0 ∧ wrap64 q = q) := ⟨by rw [Int.tdiv_eq_ediv_of_nonneg (by omega), hq], by simp; omega, by omega, wrapR _ (by omega) (by omega)⟩
  obtain ⟨r, hr⟩ : ∃ r, decide (i < q) = r := ⟨_, rfl⟩
  have HR : Hid (hasI sn size i = (true && r)) := by
    unfold hasI Hid
    rw [hi, hq, hr]
  rw [HR.out]
  clear K hs hn hq hq0 HR
  go_enter Try.func26, Try.ntmps26
  go_wp2_with fail
  refine wp_region_quiet (C := Out w) (by kernel_rfl) (by kernel_rfl) ⟨rfl, rfl, rfl, Nat.le_refl _, fun _ _ => rfl⟩ ?_
  refine BigFrame.wpQuiet_want rfl (fun K hK => ?_)
  refine quiet_val (.int .i64 i) (fun w' hw' => by go_simp) (hK _ ?_)
  clear hK K
  simp only [Act.put, List.setIfInBounds_toArray, List.set_cons_zero, List.set_cons_succ]
  refine BigFrame.wpQuiet_want rfl (fun K hK => ?_)
  refine quiet_val (.bool true) (fun w' hw' => by go_simp) (hK _ ?_)
  clear hK K
  simp only [Act.put, List.setIfInBounds_toArray, List.set_cons_zero, List.set_cons_succ]
  refine BigFrame.wpQuiet_want rfl (fun K hK => ?_)
  refine quiet_val (.bool true) (fun w' hw' => by go_simp) (hK _ ?_)
  clear hK K
  simp only [Act.put, List.setIfInBounds_toArray, List.set_cons_zero, List.set_cons_succ]
  refine BigFrame.wpQuiet_want rfl (fun K hK => ?_)
  refine quiet_val (.int .i64 i) (fun w' hw' => by go_simp) (hK _ ?_)
  clear hK K
  simp only [Act.put, List.setIfInBounds_toArray, List.set_cons_zero, List.set_cons_succ]
  refine BigFrame.wpQuiet_want rfl (fun K hK => ?_)
  refine quiet_val (.pointer (some ⟨g, 0, none⟩)) (fun w' hw' => by go_simp) (hK _ ?_)
  clear hK K
  simp only [Act.put, List.setIfInBounds_toArray, List.set_cons_zero, List.set_cons_succ]
  refine BigFrame.wpQuiet_want rfl (fun K hK => ?_)
  refine quiet_val (.pointer (some ⟨g, 0, none⟩)) (fun w' hw' => by go_simp) (hK _ ?_)
  clear hK K
  simp only [Act.put, List.setIfInBounds_toArray, List.set_cons_zero, List.set_cons_succ]
  refine BigFrame.wpQuiet_want rfl (fun K hK => ?_)
  refine quiet_val (.pointer (some ⟨g, 0, none⟩)) (fun w' hw' => by go_simp) (hK _ ?_)
  clear hK K
  simp only [Act.put, List.setIfInBounds_toArray, List.set_cons_zero, List.set_cons_succ]
  refine BigFrame.wpQuiet_want rfl (fun K hK => ?_)
  refine quiet_val (.slice sa sn sc) (fun w' hw' => by obtain ⟨d0, d1, d2, d3, d4, d5, d6⟩ := Blk.d7 (HB.out w' hw'); go_simp) (hK _ ?_)
  clear hK K
  simp only [Act.put, List.setIfInBounds_toArray, List.set_cons_zero, List.set_cons_succ]
  refine BigFrame.wpQuiet_want rfl (fun K hK => ?_)
  refine quiet_val (.int .i64 (sn : Int)) (fun w' hw' => by go_simp) (hK _ ?_)
  clear hK K
  simp only [Act.put, List.setIfInBounds_toArray, List.set_cons_zero, List.set_cons_succ]
  refine BigFrame.wpQuiet_want rfl (fun K hK => ?_)
  refine quiet_val (.pointer (some ⟨g, 0, none⟩)) (fun w' hw' => by go_simp) (hK _ ?_)
  clear hK K
  simp only [Act.put, List.setIfInBounds_toArray, List.set_cons_zero, List.set_cons_succ]
  refine BigFrame.wpQuiet_want rfl (fun K hK => ?_)
  refine quiet_val (.pointer (some ⟨g, 0, none⟩)) (fun w' hw' => by go_simp) (hK _ ?_)
  clear hK K
  simp only [Act.put, List.setIfInBounds_toArray, List.set_cons_zero, List.set_cons_succ]
  refine BigFrame.wpQuiet_want rfl (fun K hK => ?_)
  refine quiet_val (.pointer (some ⟨g, 1, none⟩)) (fun w' hw' => by go_simp) (hK _ ?_)
  clear hK K
  simp only [Act.put, List.setIfInBounds_toArray, List.set_cons_zero, List.set_cons_succ]
  refine BigFrame.wpQuiet_want rfl (fun K hK => ?_)
  refine quiet_val (.int .i64 size) (fun w' hw' => by obtain ⟨d0, d1, d2, d3, d4, d5, d6⟩ := Blk.d7 (HB.out w' hw'); go_simp) (hK _ ?_)
  clear hK K
  simp only [Act.put, List.setIfInBounds_toArray, List.set_cons_zero, List.set_cons_succ]
  refine BigFrame.wpQuiet_want rfl (fun K hK => ?_)
  refine quiet_val (.int .i64 q) (fun w' hw' => by obtain ⟨e1, e2, e3, e4⟩ := HQ.out; have e5 := (wrap_is _).trans e4; go_simp) (hK _ ?_)
  clear hK K
  simp only [Act.put, List.setIfInBounds_toArray, List.set_cons_zero, List.set_cons_succ]
  refine BigFrame.wpQuiet_want rfl (fun K hK => ?_)
  refine quiet_val (.bool r) (fun w' hw' => by go_simp) (hK _ ?_)
  clear hK K
  simp only [Act.put, List.setIfInBounds_toArray, List.set_cons_zero, List.set_cons_succ]
  refine BigFrame.wpQuiet_want rfl (fun K hK => ?_)
  refine quiet_val (.bool r) (fun w' hw' => by go_simp) (hK _ ?_)
  clear hK K
  simp only [Act.put, List.setIfInBounds_toArray, List.set_cons_zero, List.set_cons_succ]
  refine BigFrame.wpQuiet_want rfl (fun K hK => ?_)
  refine quiet_val (.bool r) (fun w' hw' => by go_simp) (hK _ ?_)
  clear hK K
  simp only [Act.put, List.setIfInBounds_toArray, List.set_cons_zero, List.set_cons_succ]
  refine wpQuiet_nil ?_
  intro w9 hb
  have B9 := Lib.hid hb
  clear hb
  go_wp2_with fail
  go_ret
  exact ⟨rfl, B9.out⟩
set_option maxHeartbeats 4000000 in
set_option maxRecDepth 100000 in
theorem refHas_false (g : Nat) (sa : Option Addr) (sn sc : Nat) (size i : Int) (wv : Value) (left done : Int) (armed down : Bool) (w : World) (K : Blk w g 31 (cellsD (.slice sa sn sc) size wv left done armed down)) (hs : 1 ≤ size) (hn : sn ≤ 3000000) (hi : decide (i ≥ 0) = false) :
    Calls Try.prog 26 #[.pointer (some ⟨g, 0, none⟩), .int .i64 i] w fun e w' => e = .returned (.bool (hasI sn size i)) ∧ Below w.heap.size w w' := by
  have HB : Hid (∀ A, Below w.heap.size w A → Blk A g 31 (cellsD (.slice sa sn sc) size wv left done armed down)) := fun A hA => K.grow hA
  obtain ⟨q, hq⟩ : ∃ q, (sn : Int) / size = q := ⟨_, rfl⟩
  have hq0 : 0 ≤ q ∧ q ≤ sn := by rw [← hq]; exact ⟨Int.ediv_nonneg (by omega) (by omega), Int.ediv_le_self _ (by omega)⟩
  have HQ : Hid ((sn : Int).tdiv size = q ∧ (size == 0) = false ∧ ¬ size = 0 ∧ wrap64 q = q) := ⟨by rw [Int.tdiv_eq_ediv_of_nonneg (by omega), hq], by simp; omega, by omega, wrapR _ (by omega) (by omega)⟩
  obtain ⟨r, hr⟩ : ∃ r, decide (i < q) = r := ⟨_, rfl⟩
  have HR : Hid (hasI sn size i = (false && r)) := by
    unfold hasI Hid
    rw [hi, hq, hr]
  rw [HR.out]
  clear K hs hn hq hq0 HR
  go_enter Try.func26, Try.ntmps26
  go_wp2_with fail
  refine wp_region_quiet (C := Out w) (by kernel_rfl) (by kernel_rfl) ⟨rfl, rfl, rfl, Nat.le_refl _, fun _ _ => rfl⟩ ?_
  refine BigFrame.wpQuiet_want rfl (fun K hK => ?_)
  refine quiet_val (.int .i64 i) (fun w' hw' => by go_simp) (hK _ ?_)
  clear hK K
  simp only [Act.put, List.setIfInBounds_toArray, List.set_cons_zero, List.set_cons_succ]
  refine BigFrame.wpQuiet_want rfl (fun K hK => ?_)
  refine quiet_val (.bool false) (fun w' hw' => by go_simp) (hK _ ?_)
  clear hK K
  simp only [Act.put, List.setIfInBounds_toArray, List.set_cons_zero, List.set_cons_succ]
  refine BigFrame.wpQuiet_want rfl (fun K hK => ?_)
  refine quiet_val (.bool false) (fun w' hw' => by go_simp) (hK _ ?_)
  clear hK K
  simp only [Act.put, List.setIfInBounds_toArray, List.set_cons_zero, List.set_cons_succ]
  go_big_quiet_skip
  go_big_quiet_skip
  go_big_quiet_skip
  go_big_quiet_skip
  go_big_quiet_skip
  go_big_quiet_skip
  go_big_quiet_skip
  go_big_quiet_skip
  go_big_quiet_skip
  go_big_quiet_skip
  go_big_quiet_skip
  go_big_quiet_skip
  refine BigFrame.wpQuiet_want rfl (fun K hK => ?_)
  refine quiet_val (.bool false) (fun w' hw' => by go_simp) (hK _ ?_)
  clear hK K
  simp only [Act.put, List.setIfInBounds_toArray, List.set_cons_zero, List.set_cons_succ]
  refine BigFrame.wpQuiet_want rfl (fun K hK => ?_)
  refine quiet_val (.bool false) (fun w' hw' => by go_simp) (hK _ ?_)
  clear hK K
  simp only [Act.put, List.setIfInBounds_toArray, List.set_cons_zero, List.set_cons_succ]
  refine wpQuiet_nil ?_
  intro w9 hb
  have B9 := Lib.hid hb
  clear hb
  go_wp2_with fail
  go_ret
  exact ⟨rfl, B9.out⟩
theorem refHas_c (g : Nat) (sa : Option Addr) (sn sc : Nat) (size i : Int) (wv : Value) (left done : Int) (armed down : Bool) (w : World) (K : Blk w g 31 (cellsD (.slice sa sn sc) size wv left done armed down)) (hs : 1 ≤ size) (hn : sn ≤ 3000000) :
    Calls Try.prog 26 #[.pointer (some ⟨g, 0, none⟩), .int .i64 i] w fun e w' => e = .returned (.bool (hasI sn size i)) ∧ Below w.heap.size w w' := by
  cases hi : decide (i ≥ 0)
  · exact refHas_false g sa sn sc size i wv left done armed down w K hs hn hi
  · exact refHas_true g sa sn sc size i wv left done armed down w K hs hn hi
/-- What a command makes of the disk's last four cells, and its error. -/
def cmdOut (left done : Int) (armed down : Bool) : (Int × Int × Bool × Bool) × Int :=
  if armed = true ∧ left = 0 then ((left, done, armed, true), 40) else if armed = true then ((left - 1, done + 1, armed, down), 0) else ((left, done + 1, armed, down), 0)
set_option maxHeartbeats 4000000 in
set_option maxRecDepth 100000 in
theorem refCommand_down (g : Nat) (sv wv : Value) (size done : Int) (down : Bool) (w : World) (K : Blk w g 31 (cellsD sv size wv 0 done true down)) :
    Calls Try.prog 35 #[.pointer (some ⟨g, 0, none⟩)] w fun e w' => e = .returned (.int .i64 40) ∧ Blk w' g 31 (cellsD sv size wv 0 done true true) ∧ Keep (fun k => k ≠ g) w w' := by
  obtain ⟨d0, d1, d2, d3, d4, d5, d6⟩ := K.d7
  have f3 := K.free 3
  have f4 := K.free 4
  have f6 := K.free 6
  have lg := K.lt
  have HK := Lib.hid K
  clear K
  go_enter Try.func35, Try.ntmps35
  go_wp2_with fail
  go_ret
  exact ⟨rfl, HK.out.set 6 (.bool true), Keep.setCell _ _ _ (by simp)⟩
set_option maxHeartbeats 4000000 in
set_option maxRecDepth 100000 in
theorem refCommand_armed (g : Nat) (sv wv : Value) (size left done : Int) (down : Bool) (hz : ¬ left = 0) (w : World) (K : Blk w g 31 (cellsD sv size wv left done true down)) (hd : 0 ≤ done ∧ done ≤ 1000000) (hl : -1 ≤ left ∧ left ≤ 9223372036854775807) :
    Calls Try.prog 35 #[.pointer (some ⟨g, 0, none⟩)] w fun e w' => e = .returned (.int .i64 0) ∧ Blk w' g 31 (cellsD sv size wv (left - 1) (done + 1) true down) ∧ Keep (fun k => k ≠ g) w w' := by
  obtain ⟨d0, d1, d2, d3, d4, d5, d6⟩ := K.d7
  have f3 := K.free 3
  have f4 := K.free 4
  have f6 := K.free 6
  have lg := K.lt
  have HK := Lib.hid K
  have h1 : wrap64 (done + 1) = done + 1 := wrapR _ (by omega) (by omega)
  clear K hd
  have h2 : wrap64 (left - 1) = left - 1 := wrapR _ (by omega) (by omega)
  have h3 : (left == 0) = false := by simpa using hz
  clear hl
  go_enter Try.func35, Try.ntmps35
  go_upto_region 6 with fail
  obtain ⟨w2, hw⟩ : ∃ WW, w.setCell ⟨g, 3, none⟩ (.int .i64 (left - 1)) = WW := ⟨_, rfl⟩
  have H2 : Hid (Blk w2 g 31 (cellsD sv size wv (left - 1) done true down) ∧ Keep (fun k => k ≠ g) w w2) := by
    rw [← hw]
    exact ⟨HK.out.set 3 (.int .i64 (left - 1)), Keep.setCell _ _ _ (by simp)⟩
  rw [hw]
  clear hw d0 d1 d2 d3 d4 d5 d6 f3 f4 f6 lg HK
  obtain ⟨d0, d1, d2, d3, d4, d5, d6⟩ := H2.out.1.d7
  have f4 := H2.out.1.free 4
  have lg := H2.out.1.lt
  go_wp2_with fail
  go_ret
  exact ⟨rfl, H2.out.1.set 4 (.int .i64 (done + 1)), H2.out.2.trans (Keep.setCell _ _ _ (by simp))⟩
set_option maxHeartbeats 4000000 in
set_option maxRecDepth 100000 in
theorem refCommand_free (g : Nat) (sv wv : Value) (size left done : Int) (down : Bool) (w : World) (K : Blk w g 31 (cellsD sv size wv left done false down)) (hd : 0 ≤ done ∧ done ≤ 1000000) :
    Calls Try.prog 35 #[.pointer (some ⟨g, 0, none⟩)] w fun e w' => e = .returned (.int .i64 0) ∧ Blk w' g 31 (cellsD sv size wv left (done + 1) false down) ∧ Keep (fun k => k ≠ g) w w' := by
  obtain ⟨d0, d1, d2, d3, d4, d5, d6⟩ := K.d7
  have f3 := K.free 3
  have f4 := K.free 4
  have f6 := K.free 6
  have lg := K.lt
  have HK := Lib.hid K
  have h1 : wrap64 (done + 1) = done + 1 := wrapR _ (by omega) (by omega)
  clear K hd
  go_enter Try.func35, Try.ntmps35
  go_wp2_with fail
  go_ret
  exact ⟨rfl, HK.out.set 4 (.int .i64 (done + 1)), Keep.setCell _ _ _ (by simp)⟩
theorem refCommand_c (g : Nat) (sv wv : Value) (size left done : Int) (armed down : Bool) (w : World) (K : Blk w g 31 (cellsD sv size wv left done armed down)) (hd : 0 ≤ done ∧ done ≤ 1000000) (hl : armed = true → 0 ≤ left ∧ left ≤ 9223372036854775807) :
    Calls Try.prog 35 #[.pointer (some ⟨g, 0, none⟩)] w fun e w' => e = .returned (.int .i64 (cmdOut left done armed down).2) ∧ Blk w' g 31 (cellsD sv size wv (cmdOut left done armed down).1.1 (cmdOut left done armed down).1.2.1 (cmdOut left done armed down).1.2.2.1 (cmdOut left done armed down).1.2.2.2) ∧ Keep (fun k => k ≠ g) w w' := by
  cases armed
  · exact refCommand_free g sv wv size left done down w K hd
  · by_cases hz : left = 0
    · subst hz
      rw [show cmdOut 0 done true down = ((0, done, true, true), 40) from rfl]
      exact refCommand_down g sv wv size done down w K
    · rw [show cmdOut left done true down = ((left - 1, done + 1, true, down), 0) by unfold cmdOut; rw [if_neg (by simp [hz]), if_pos rfl]]
      have := hl rfl
      exact refCommand_armed g sv wv size left done down hz w K hd (by omega)
end Go.Proofs.Ytohmkmekdnfkoaa
