/- The law of P2.3 where the quotient is an int. -/
import Derived.Test.YtgkgdkdendmfnaaZa
import Derived.Deep.CutBlock
import Derived.Deep.DeepCutAuto
namespace Go.Proofs.Ytgkgdkdendmfnaa
open Go.RowKit
set_option maxRecDepth 100000 in
set_option maxHeartbeats 1000000 in
theorem quot_fits_pos (a b d F : Int) (x : Bool) (ph pl qh ql rh rl dh dl : Int) (s c : Int) (w : World) (hd : 0 < d)
    (HM : Hid (∀ w, Calls Try.prog 28 #[.int .i64 a, .int .i64 b, .int .i64 d] w fun e w' => e = .returned (.tuple #[.int .i64 F, .bool x, .int .i64 0]) ∧ Below w.heap.size w w'))
    (HP : Hid (∀ w, Calls Try.prog 18 #[.int .i64 a, .int .i64 b] w fun e w' => e = .returned (.agg #[.int .i64 ph, .int .u64 pl]) ∧ Below w.heap.size w w'))
    (HQ : Hid (∀ w, Calls Try.prog 18 #[.int .i64 F, .int .i64 d] w fun e w' => e = .returned (.agg #[.int .i64 qh, .int .u64 ql]) ∧ Below w.heap.size w w'))
    (HS : Hid (∀ w, Calls Try.prog 13 #[.agg #[.int .i64 ph, .int .u64 pl], .agg #[.int .i64 qh, .int .u64 ql]] w fun e w' => e = .returned (.agg #[.int .i64 rh, .int .u64 rl]) ∧ Below w.heap.size w w'))
    (HO : Hid (∀ w, Calls Try.prog 21 #[.int .i64 d] w fun e w' => e = .returned (.agg #[.int .i64 dh, .int .u64 dl]) ∧ Below w.heap.size w w'))
    (HG : Hid (∀ w, Calls Try.prog 25 #[.agg #[.int .i64 rh, .int .u64 rl]] w fun e w' => e = .returned (.int .i64 s) ∧ Below w.heap.size w w'))
    (HC : Hid (∀ w, Calls Try.prog 24 #[.agg #[.int .i64 rh, .int .u64 rl], .agg #[.int .i64 dh, .int .u64 dl]] w fun e w' => e = .returned (.int .i64 c) ∧ Below w.heap.size w w'))
    (hx : (rh == 0 && rl == 0) = x) (hs : 0 ≤ s) (hc : c < 0) :
    Calls Try.prog 7 #[.int .i64 a, .int .i64 b, .int .i64 d] w fun e w' => e = .returned (.bool true) ∧ Below w.heap.size w w' := by
  have hz : (d == 0) = false := by simp; omega
  have hX := Lib.hid hx
  have es : decide (0 ≤ s) = true := by simpa using hs
  have ec : decide (c < 0) = true := by simpa using hc
  have ed : decide (0 < d) = true := by simp; omega
  clear hx
  go_enter Try.func7, Try.ntmps7
  go_wp2_with fail
  refine (HM.out _).mono ?_
  rintro e w1 ⟨rfl, hb1⟩
  have B1 := Lib.hid hb1
  clear hb1
  go_wp2_with fail
  refine (HP.out _).mono ?_
  rintro e w2 ⟨rfl, hb2⟩
  have B2 : Hid (Below w.heap.size w w2) := below_next B1.out hb2
  clear hb2 B1
  go_upto_region 11 with fail
  have mP := NumAt.new w2 ph pl
  have B3 : Hid (Below w.heap.size w (w2.alloc (.cells #[.int .i64 ph, .int .u64 pl] 24))) := B2.out.alloc B2.out.size _
  have lw : w.heap.size ≤ w2.heap.size := B2.out.size
  generalize w2.alloc (.cells #[.int .i64 ph, .int .u64 pl] 24) = W at *
  generalize w2.heap.size = g at *
  clear B2
  go_cut [13] (fun t wx => ∃ k : Nat, t = .pointer (some ⟨k, 0, none⟩) ∧ Hid (NumAt wx k rh rl ∧ Below w.heap.size w wx))
  case first =>
    refine wp_region_noPanic ?_
    have B : Below w.heap.size w W := B3.out
    refine wp_region_held_drew (S := fun w' => NumAt w' g ph pl) (by kernel_rfl) mP (fun hS => ?_)
    refine wpAnyH_take (i := 0) (v := .agg #[.int .i64 ph, .int .u64 pl]) rfl (by kernel_rfl) (by kernel_rfl) (by kernel_rfl) (fun _ _ _ h => h.elim) (.inl ⟨rfl, fun w' hw' => run_numI _ _ _ g _ _ w' rfl rfl hw'⟩) hS ?_
    simp only [Act.put, List.getElem_toArray, List.getElem_cons_zero, List.setIfInBounds_toArray, List.set_cons_zero, List.set_cons_succ]
    refine wpAnyH_take (i := 1) (v := .int .i64 F) rfl (by kernel_rfl) (by kernel_rfl) (by kernel_rfl) (fun _ _ _ h => h.elim) (.inl ⟨rfl, fun w' hw' => by go_simp⟩) hS ?_
    simp only [Act.put, List.getElem_toArray, List.getElem_cons_zero, List.getElem_cons_succ, List.setIfInBounds_toArray, List.set_cons_zero, List.set_cons_succ]
    refine wpAnyH_take (i := 2) (v := .int .i64 d) rfl (by kernel_rfl) (by kernel_rfl) (by kernel_rfl) (fun _ _ _ h => h.elim) (.inl ⟨rfl, fun w' hw' => by go_simp⟩) hS ?_
    simp only [Act.put, List.getElem_toArray, List.getElem_cons_zero, List.getElem_cons_succ, List.setIfInBounds_toArray, List.set_cons_zero, List.set_cons_succ]
    replace B : Below w.heap.size w W.drew := B.drew
    replace mP : NumAt W.drew g ph pl := mP
    generalize W.drew = V at *
    refine wpAnyH_ready (rs := [3, 5]) (by kernel_rfl) (by simp) (AllReadyH.cons rfl (fun K hK => ?_) (AllReadyH.cons rfl (fun K hK => ?_) (AllReadyH.nil)))
    · simp only [List.getElem_toArray, List.getElem_cons_succ, List.getElem_cons_zero]
      go_simp
      refine (HQ.out _).mono ?_
      rintro e W1 ⟨rfl, hb⟩
      replace mP := mP.keep hb
      replace B := below_next B hb
      clear hb
      refine hK.out _ _ mP (fun hS => ?_)
      clear hK
      refine wpAnyH_ready (rs := [4, 5]) (by kernel_rfl) (by simp) (AllReadyH.cons rfl (fun K hK => ?_) (AllReadyH.cons rfl (fun K hK => ?_) (AllReadyH.nil)))
      · simp only [List.getElem_toArray, List.getElem_cons_succ, List.getElem_cons_zero]
        go_simp
        refine (HS.out _).mono ?_
        rintro e W2 ⟨rfl, hb⟩
        replace mP := mP.keep hb
        replace B := below_next B hb
        clear hb
        refine hK.out _ _ mP (fun hS => ?_)
        clear hK
        refine wpAnyH_ready (rs := [5]) (by kernel_rfl) (by simp) (AllReadyH.cons rfl (fun K hK => ?_) (AllReadyH.nil))
        · simp only [List.getElem_toArray, List.getElem_cons_succ, List.getElem_cons_zero]
          go_simp
          have mR : NumAt (World.alloc W2 (.cells #[.int .i64 0, .int .u64 0] 24)) (World.heap W2).size 0 0 := NumAt.new _ 0 0
          have mPlt := mP.lt
          have Bsz := B.size
          replace mP := mP.alloc (.cells #[.int .i64 0, .int .u64 0] 24)
          replace B := B.alloc B.size (.cells #[.int .i64 0, .int .u64 0] 24)
          have hne : g ≠ (World.heap W2).size := by have := mPlt; omega
          have hk : w.heap.size ≤ (World.heap W2).size := Bsz
          refine hK.out _ _ mP (fun hS => ?_)
          clear hK mPlt Bsz
          generalize World.alloc W2 (.cells #[.int .i64 0, .int .u64 0] 24) = W3 at *
          generalize (World.heap W2).size = k3 at *
          refine wpAnyH_ready (rs := [6]) (by kernel_rfl) (by simp) (AllReadyH.cons rfl (fun K hK => ?_) (AllReadyH.nil))
          · simp only [List.getElem_toArray, List.getElem_cons_succ, List.getElem_cons_zero]
            have c0 := mR.c0
            have c1 := mR.c1
            have f0 := mR.free 0
            have f1 := mR.free 1
            have MR := Lib.hid mR
            have MP := Lib.hid mP
            have BB := Lib.hid B
            have HK := Lib.hid hK
            clear mR mP B hK hS
            go_simp
            have mR := MR.out.stored rh rl
            have mP : NumAt _ g ph pl := (MP.out.other ⟨k3, 0, none⟩ (.int .i64 rh) hne).other ⟨k3, 1, none⟩ (.int .u64 rl) hne
            have B := (BB.out.setCell (p := ⟨k3, 0, none⟩) hk (.int .i64 rh)).setCell (p := ⟨k3, 1, none⟩) hk (.int .u64 rl)
            have hK := HK.out
            refine hK.out _ _ mP (fun hS => ?_)
            clear HK MR MP BB
            refine wpAnyH_done (by kernel_rfl) ?_ _
            refine NoPanic.normal ?_
            clear hK
            go_wp2_with fail
            go_meet
            exact ⟨_, rfl, Lib.hid ⟨mR, B⟩⟩
      · simp only [List.getElem_toArray, List.getElem_cons_succ, List.getElem_cons_zero]
        go_simp
        have mR : NumAt (World.alloc W1 (.cells #[.int .i64 0, .int .u64 0] 24)) (World.heap W1).size 0 0 := NumAt.new _ 0 0
        have mPlt := mP.lt
        have Bsz := B.size
        replace mP := mP.alloc (.cells #[.int .i64 0, .int .u64 0] 24)
        replace B := B.alloc B.size (.cells #[.int .i64 0, .int .u64 0] 24)
        have hne : g ≠ (World.heap W1).size := by have := mPlt; omega
        have hk : w.heap.size ≤ (World.heap W1).size := Bsz
        refine hK.out _ _ mP (fun hS => ?_)
        clear hK mPlt Bsz
        generalize World.alloc W1 (.cells #[.int .i64 0, .int .u64 0] 24) = W2 at *
        generalize (World.heap W1).size = k2 at *
        refine wpAnyH_ready (rs := [4]) (by kernel_rfl) (by simp) (AllReadyH.cons rfl (fun K hK => ?_) (AllReadyH.nil))
        · simp only [List.getElem_toArray, List.getElem_cons_succ, List.getElem_cons_zero]
          go_simp
          refine (HS.out _).mono ?_
          rintro e W3 ⟨rfl, hb⟩
          replace mP := mP.keep hb
          replace mR := mR.keep hb
          replace B := below_next B hb
          clear hb
          refine hK.out _ _ mP (fun hS => ?_)
          clear hK
          refine wpAnyH_ready (rs := [6]) (by kernel_rfl) (by simp) (AllReadyH.cons rfl (fun K hK => ?_) (AllReadyH.nil))
          · simp only [List.getElem_toArray, List.getElem_cons_succ, List.getElem_cons_zero]
            have c0 := mR.c0
            have c1 := mR.c1
            have f0 := mR.free 0
            have f1 := mR.free 1
            have MR := Lib.hid mR
            have MP := Lib.hid mP
            have BB := Lib.hid B
            have HK := Lib.hid hK
            clear mR mP B hK hS
            go_simp
            have mR := MR.out.stored rh rl
            have mP : NumAt _ g ph pl := (MP.out.other ⟨k2, 0, none⟩ (.int .i64 rh) hne).other ⟨k2, 1, none⟩ (.int .u64 rl) hne
            have B := (BB.out.setCell (p := ⟨k2, 0, none⟩) hk (.int .i64 rh)).setCell (p := ⟨k2, 1, none⟩) hk (.int .u64 rl)
            have hK := HK.out
            refine hK.out _ _ mP (fun hS => ?_)
            clear HK MR MP BB
            refine wpAnyH_done (by kernel_rfl) ?_ _
            refine NoPanic.normal ?_
            clear hK
            go_wp2_with fail
            go_meet
            exact ⟨_, rfl, Lib.hid ⟨mR, B⟩⟩
    · simp only [List.getElem_toArray, List.getElem_cons_succ, List.getElem_cons_zero]
      go_simp
      have mR : NumAt (World.alloc V (.cells #[.int .i64 0, .int .u64 0] 24)) (World.heap V).size 0 0 := NumAt.new _ 0 0
      have mPlt := mP.lt
      have Bsz := B.size
      replace mP := mP.alloc (.cells #[.int .i64 0, .int .u64 0] 24)
      replace B := B.alloc B.size (.cells #[.int .i64 0, .int .u64 0] 24)
      have hne : g ≠ (World.heap V).size := by have := mPlt; omega
      have hk : w.heap.size ≤ (World.heap V).size := Bsz
      refine hK.out _ _ mP (fun hS => ?_)
      clear hK mPlt Bsz
      generalize World.alloc V (.cells #[.int .i64 0, .int .u64 0] 24) = W1 at *
      generalize (World.heap V).size = k1 at *
      refine wpAnyH_ready (rs := [3]) (by kernel_rfl) (by simp) (AllReadyH.cons rfl (fun K hK => ?_) (AllReadyH.nil))
      · simp only [List.getElem_toArray, List.getElem_cons_succ, List.getElem_cons_zero]
        go_simp
        refine (HQ.out _).mono ?_
        rintro e W2 ⟨rfl, hb⟩
        replace mP := mP.keep hb
        replace mR := mR.keep hb
        replace B := below_next B hb
        clear hb
        refine hK.out _ _ mP (fun hS => ?_)
        clear hK
        refine wpAnyH_ready (rs := [4]) (by kernel_rfl) (by simp) (AllReadyH.cons rfl (fun K hK => ?_) (AllReadyH.nil))
        · simp only [List.getElem_toArray, List.getElem_cons_succ, List.getElem_cons_zero]
          go_simp
          refine (HS.out _).mono ?_
          rintro e W3 ⟨rfl, hb⟩
          replace mP := mP.keep hb
          replace mR := mR.keep hb
          replace B := below_next B hb
          clear hb
          refine hK.out _ _ mP (fun hS => ?_)
          clear hK
          refine wpAnyH_ready (rs := [6]) (by kernel_rfl) (by simp) (AllReadyH.cons rfl (fun K hK => ?_) (AllReadyH.nil))
          · simp only [List.getElem_toArray, List.getElem_cons_succ, List.getElem_cons_zero]
            have c0 := mR.c0
            have c1 := mR.c1
            have f0 := mR.free 0
            have f1 := mR.free 1
            have MR := Lib.hid mR
            have MP := Lib.hid mP
            have BB := Lib.hid B
            have HK := Lib.hid hK
            clear mR mP B hK hS
            go_simp
            have mR := MR.out.stored rh rl
            have mP : NumAt _ g ph pl := (MP.out.other ⟨k1, 0, none⟩ (.int .i64 rh) hne).other ⟨k1, 1, none⟩ (.int .u64 rl) hne
            have B := (BB.out.setCell (p := ⟨k1, 0, none⟩) hk (.int .i64 rh)).setCell (p := ⟨k1, 1, none⟩) hk (.int .u64 rl)
            have hK := HK.out
            refine hK.out _ _ mP (fun hS => ?_)
            clear HK MR MP BB
            refine wpAnyH_done (by kernel_rfl) ?_ _
            refine NoPanic.normal ?_
            clear hK
            go_wp2_with fail
            go_meet
            exact ⟨_, rfl, Lib.hid ⟨mR, B⟩⟩
  case rest =>
    obtain ⟨k, rfl, hk⟩ := hcut
    have mR := hk.out.1
    have BC := Lib.hid hk.out.2
    have c0 := mR.c0
    have c1 := mR.c1
    have f0 := mR.free 0
    have f1 := mR.free 1
    have MR := Lib.hid mR
    have hx := hX.out
    clear hk mR
    cases x
    · by_cases e1 : rh = 0
      · subst e1
        have e2 : ¬ rl = 0 := fun h => by subst h; exact absurd hx (by decide)
        have e3 : (rl == 0) = false := by simpa using e2
        clear hx hX
        go_wp2_with fail
        have mR := MR.out
        have hsz : wc.heap.size ≤ wc.heap.size := Nat.le_refl _
        refine wp_region_quiet (C := Out wc) (by kernel_rfl) (by kernel_rfl) ⟨rfl, rfl, rfl, Nat.le_refl _, fun _ _ => rfl⟩ ?_
        refine BigFrame.wpQuiet_want rfl (fun K hK => ?_)
        refine quiet_val (.agg #[.int .i64 0, .int .u64 rl]) (fun w' hw' => run_numI _ _ _ k _ _ w' rfl rfl ((Below.block hw' k mR.lt).trans mR)) (hK _ ?_)
        clear hK K
        simp only [Act.put, List.setIfInBounds_toArray, List.set_cons_zero, List.set_cons_succ]
        refine BigFrame.wpQuiet_want rfl (fun K hK => ?_)
        refine quiet_call 25 #[.agg #[.int .i64 0, .int .u64 rl]] (.int .i64 s) (fun w' _ => by go_simp) (fun w' hw' => Calls.out hw' (HG.out _)) (hK _ ?_)
        clear hK K
        simp only [Act.put, List.setIfInBounds_toArray, List.set_cons_zero, List.set_cons_succ]
        refine BigFrame.wpQuiet_want rfl (fun K hK => ?_)
        refine quiet_val (.bool true) (fun w' _ => by go_simp) (hK _ ?_)
        clear hK K
        simp only [Act.put, List.setIfInBounds_toArray, List.set_cons_zero, List.set_cons_succ]
        refine BigFrame.wpQuiet_want rfl (fun K hK => ?_)
        refine quiet_val (.bool true) (fun w' _ => by go_simp) (hK _ ?_)
        clear hK K
        simp only [Act.put, List.setIfInBounds_toArray, List.set_cons_zero, List.set_cons_succ]
        refine BigFrame.wpQuiet_want rfl (fun K hK => ?_)
        refine quiet_val (.agg #[.int .i64 0, .int .u64 rl]) (fun w' hw' => run_numI _ _ _ k _ _ w' rfl rfl ((Below.block hw' k mR.lt).trans mR)) (hK _ ?_)
        clear hK K
        simp only [Act.put, List.setIfInBounds_toArray, List.set_cons_zero, List.set_cons_succ]
        refine BigFrame.wpQuiet_want rfl (fun K hK => ?_)
        refine quiet_val (.int .i64 d) (fun w' _ => by go_simp) (hK _ ?_)
        clear hK K
        simp only [Act.put, List.setIfInBounds_toArray, List.set_cons_zero, List.set_cons_succ]
        refine BigFrame.wpQuiet_want rfl (fun K hK => ?_)
        refine quiet_call 21 #[.int .i64 d] (.agg #[.int .i64 dh, .int .u64 dl]) (fun w' _ => by go_simp) (fun w' hw' => Calls.out hw' (HO.out _)) (hK _ ?_)
        clear hK K
        simp only [Act.put, List.setIfInBounds_toArray, List.set_cons_zero, List.set_cons_succ]
        refine BigFrame.wpQuiet_want rfl (fun K hK => ?_)
        refine quiet_call 24 #[.agg #[.int .i64 0, .int .u64 rl], .agg #[.int .i64 dh, .int .u64 dl]] (.int .i64 c) (fun w' _ => by go_simp) (fun w' hw' => Calls.out hw' (HC.out _)) (hK _ ?_)
        clear hK K
        simp only [Act.put, List.setIfInBounds_toArray, List.set_cons_zero, List.set_cons_succ]
        refine BigFrame.wpQuiet_want rfl (fun K hK => ?_)
        refine quiet_val (.bool true) (fun w' _ => by go_simp) (hK _ ?_)
        clear hK K
        simp only [Act.put, List.setIfInBounds_toArray, List.set_cons_zero, List.set_cons_succ]
        refine BigFrame.wpQuiet_want rfl (fun K hK => ?_)
        refine quiet_val (.bool true) (fun _ _ => rfl) (hK _ ?_)
        clear hK K
        simp only [Act.put, List.setIfInBounds_toArray, List.set_cons_zero, List.set_cons_succ]
        refine BigFrame.wpQuiet_want rfl (fun K hK => ?_)
        refine quiet_val (.bool true) (fun w' _ => by go_simp) (hK _ ?_)
        clear hK K
        simp only [Act.put, List.setIfInBounds_toArray, List.set_cons_zero, List.set_cons_succ]
        refine BigFrame.wpQuiet_want rfl (fun K hK => ?_)
        refine quiet_call 17 #[] (.bool true) (fun w' _ => by go_simp) (fun w' hw' => Calls.out hw' (awakeL _)) (hK _ ?_)
        clear hK K
        simp only [Act.put, List.setIfInBounds_toArray, List.set_cons_zero, List.set_cons_succ]
        refine BigFrame.wpQuiet_want rfl (fun K hK => ?_)
        refine quiet_val (.bool true) (fun _ _ => rfl) (hK _ ?_)
        clear hK K
        simp only [Act.put, List.setIfInBounds_toArray, List.set_cons_zero, List.set_cons_succ]
        refine BigFrame.wpQuiet_want rfl (fun K hK => ?_)
        refine quiet_val (.bool true) (fun w' _ => by go_simp) (hK _ ?_)
        clear hK K
        simp only [Act.put, List.setIfInBounds_toArray, List.set_cons_zero, List.set_cons_succ]
        refine wpQuiet_nil ?_
        intro w' hw'
        have Bw : Hid (Below w.heap.size w w') := below_next BC.out hw'
        clear hw' mR
        go_wp2_with fail
        go_ret
        exact ⟨rfl, Bw.out⟩
      · have e3 : (rh == 0) = false := by simpa using e1
        clear hx hX
        go_wp2_with fail
        have mR := MR.out
        have hsz : wc.heap.size ≤ wc.heap.size := Nat.le_refl _
        refine wp_region_quiet (C := Out wc) (by kernel_rfl) (by kernel_rfl) ⟨rfl, rfl, rfl, Nat.le_refl _, fun _ _ => rfl⟩ ?_
        refine BigFrame.wpQuiet_want rfl (fun K hK => ?_)
        refine quiet_val (.agg #[.int .i64 rh, .int .u64 rl]) (fun w' hw' => run_numI _ _ _ k _ _ w' rfl rfl ((Below.block hw' k mR.lt).trans mR)) (hK _ ?_)
        clear hK K
        simp only [Act.put, List.setIfInBounds_toArray, List.set_cons_zero, List.set_cons_succ]
        refine BigFrame.wpQuiet_want rfl (fun K hK => ?_)
        refine quiet_call 25 #[.agg #[.int .i64 rh, .int .u64 rl]] (.int .i64 s) (fun w' _ => by go_simp) (fun w' hw' => Calls.out hw' (HG.out _)) (hK _ ?_)
        clear hK K
        simp only [Act.put, List.setIfInBounds_toArray, List.set_cons_zero, List.set_cons_succ]
        refine BigFrame.wpQuiet_want rfl (fun K hK => ?_)
        refine quiet_val (.bool true) (fun w' _ => by go_simp) (hK _ ?_)
        clear hK K
        simp only [Act.put, List.setIfInBounds_toArray, List.set_cons_zero, List.set_cons_succ]
        refine BigFrame.wpQuiet_want rfl (fun K hK => ?_)
        refine quiet_val (.bool true) (fun w' _ => by go_simp) (hK _ ?_)
        clear hK K
        simp only [Act.put, List.setIfInBounds_toArray, List.set_cons_zero, List.set_cons_succ]
        refine BigFrame.wpQuiet_want rfl (fun K hK => ?_)
        refine quiet_val (.agg #[.int .i64 rh, .int .u64 rl]) (fun w' hw' => run_numI _ _ _ k _ _ w' rfl rfl ((Below.block hw' k mR.lt).trans mR)) (hK _ ?_)
        clear hK K
        simp only [Act.put, List.setIfInBounds_toArray, List.set_cons_zero, List.set_cons_succ]
        refine BigFrame.wpQuiet_want rfl (fun K hK => ?_)
        refine quiet_val (.int .i64 d) (fun w' _ => by go_simp) (hK _ ?_)
        clear hK K
        simp only [Act.put, List.setIfInBounds_toArray, List.set_cons_zero, List.set_cons_succ]
        refine BigFrame.wpQuiet_want rfl (fun K hK => ?_)
        refine quiet_call 21 #[.int .i64 d] (.agg #[.int .i64 dh, .int .u64 dl]) (fun w' _ => by go_simp) (fun w' hw' => Calls.out hw' (HO.out _)) (hK _ ?_)
        clear hK K
        simp only [Act.put, List.setIfInBounds_toArray, List.set_cons_zero, List.set_cons_succ]
        refine BigFrame.wpQuiet_want rfl (fun K hK => ?_)
        refine quiet_call 24 #[.agg #[.int .i64 rh, .int .u64 rl], .agg #[.int .i64 dh, .int .u64 dl]] (.int .i64 c) (fun w' _ => by go_simp) (fun w' hw' => Calls.out hw' (HC.out _)) (hK _ ?_)
        clear hK K
        simp only [Act.put, List.setIfInBounds_toArray, List.set_cons_zero, List.set_cons_succ]
        refine BigFrame.wpQuiet_want rfl (fun K hK => ?_)
        refine quiet_val (.bool true) (fun w' _ => by go_simp) (hK _ ?_)
        clear hK K
        simp only [Act.put, List.setIfInBounds_toArray, List.set_cons_zero, List.set_cons_succ]
        refine BigFrame.wpQuiet_want rfl (fun K hK => ?_)
        refine quiet_val (.bool true) (fun _ _ => rfl) (hK _ ?_)
        clear hK K
        simp only [Act.put, List.setIfInBounds_toArray, List.set_cons_zero, List.set_cons_succ]
        refine BigFrame.wpQuiet_want rfl (fun K hK => ?_)
        refine quiet_val (.bool true) (fun w' _ => by go_simp) (hK _ ?_)
        clear hK K
        simp only [Act.put, List.setIfInBounds_toArray, List.set_cons_zero, List.set_cons_succ]
        refine BigFrame.wpQuiet_want rfl (fun K hK => ?_)
        refine quiet_call 17 #[] (.bool true) (fun w' _ => by go_simp) (fun w' hw' => Calls.out hw' (awakeL _)) (hK _ ?_)
        clear hK K
        simp only [Act.put, List.setIfInBounds_toArray, List.set_cons_zero, List.set_cons_succ]
        refine BigFrame.wpQuiet_want rfl (fun K hK => ?_)
        refine quiet_val (.bool true) (fun _ _ => rfl) (hK _ ?_)
        clear hK K
        simp only [Act.put, List.setIfInBounds_toArray, List.set_cons_zero, List.set_cons_succ]
        refine BigFrame.wpQuiet_want rfl (fun K hK => ?_)
        refine quiet_val (.bool true) (fun w' _ => by go_simp) (hK _ ?_)
        clear hK K
        simp only [Act.put, List.setIfInBounds_toArray, List.set_cons_zero, List.set_cons_succ]
        refine wpQuiet_nil ?_
        intro w' hw'
        have Bw : Hid (Below w.heap.size w w') := below_next BC.out hw'
        clear hw' mR
        go_wp2_with fail
        go_ret
        exact ⟨rfl, Bw.out⟩
    · obtain ⟨e1, e2⟩ : rh = 0 ∧ rl = 0 := by simpa using hx
      clear hx hX
      subst e1 e2
      go_wp2_with fail
      have mR := MR.out
      have hsz : wc.heap.size ≤ wc.heap.size := Nat.le_refl _
      refine wp_region_quiet (C := Out wc) (by kernel_rfl) (by kernel_rfl) ⟨rfl, rfl, rfl, Nat.le_refl _, fun _ _ => rfl⟩ ?_
      refine BigFrame.wpQuiet_want rfl (fun K hK => ?_)
      refine quiet_val (.agg #[.int .i64 0, .int .u64 0]) (fun w' hw' => run_numI _ _ _ k _ _ w' rfl rfl ((Below.block hw' k mR.lt).trans mR)) (hK _ ?_)
      clear hK K
      simp only [Act.put, List.setIfInBounds_toArray, List.set_cons_zero, List.set_cons_succ]
      refine BigFrame.wpQuiet_want rfl (fun K hK => ?_)
      refine quiet_call 25 #[.agg #[.int .i64 0, .int .u64 0]] (.int .i64 s) (fun w' _ => by go_simp) (fun w' hw' => Calls.out hw' (HG.out _)) (hK _ ?_)
      clear hK K
      simp only [Act.put, List.setIfInBounds_toArray, List.set_cons_zero, List.set_cons_succ]
      refine BigFrame.wpQuiet_want rfl (fun K hK => ?_)
      refine quiet_val (.bool true) (fun w' _ => by go_simp) (hK _ ?_)
      clear hK K
      simp only [Act.put, List.setIfInBounds_toArray, List.set_cons_zero, List.set_cons_succ]
      refine BigFrame.wpQuiet_want rfl (fun K hK => ?_)
      refine quiet_val (.bool true) (fun w' _ => by go_simp) (hK _ ?_)
      clear hK K
      simp only [Act.put, List.setIfInBounds_toArray, List.set_cons_zero, List.set_cons_succ]
      refine BigFrame.wpQuiet_want rfl (fun K hK => ?_)
      refine quiet_val (.agg #[.int .i64 0, .int .u64 0]) (fun w' hw' => run_numI _ _ _ k _ _ w' rfl rfl ((Below.block hw' k mR.lt).trans mR)) (hK _ ?_)
      clear hK K
      simp only [Act.put, List.setIfInBounds_toArray, List.set_cons_zero, List.set_cons_succ]
      refine BigFrame.wpQuiet_want rfl (fun K hK => ?_)
      refine quiet_val (.int .i64 d) (fun w' _ => by go_simp) (hK _ ?_)
      clear hK K
      simp only [Act.put, List.setIfInBounds_toArray, List.set_cons_zero, List.set_cons_succ]
      refine BigFrame.wpQuiet_want rfl (fun K hK => ?_)
      refine quiet_call 21 #[.int .i64 d] (.agg #[.int .i64 dh, .int .u64 dl]) (fun w' _ => by go_simp) (fun w' hw' => Calls.out hw' (HO.out _)) (hK _ ?_)
      clear hK K
      simp only [Act.put, List.setIfInBounds_toArray, List.set_cons_zero, List.set_cons_succ]
      refine BigFrame.wpQuiet_want rfl (fun K hK => ?_)
      refine quiet_call 24 #[.agg #[.int .i64 0, .int .u64 0], .agg #[.int .i64 dh, .int .u64 dl]] (.int .i64 c) (fun w' _ => by go_simp) (fun w' hw' => Calls.out hw' (HC.out _)) (hK _ ?_)
      clear hK K
      simp only [Act.put, List.setIfInBounds_toArray, List.set_cons_zero, List.set_cons_succ]
      refine BigFrame.wpQuiet_want rfl (fun K hK => ?_)
      refine quiet_val (.bool true) (fun w' _ => by go_simp) (hK _ ?_)
      clear hK K
      simp only [Act.put, List.setIfInBounds_toArray, List.set_cons_zero, List.set_cons_succ]
      refine BigFrame.wpQuiet_want rfl (fun K hK => ?_)
      refine quiet_val (.bool true) (fun _ _ => rfl) (hK _ ?_)
      clear hK K
      simp only [Act.put, List.setIfInBounds_toArray, List.set_cons_zero, List.set_cons_succ]
      refine BigFrame.wpQuiet_want rfl (fun K hK => ?_)
      refine quiet_val (.bool true) (fun w' _ => by go_simp) (hK _ ?_)
      clear hK K
      simp only [Act.put, List.setIfInBounds_toArray, List.set_cons_zero, List.set_cons_succ]
      refine BigFrame.wpQuiet_want rfl (fun K hK => ?_)
      refine quiet_call 17 #[] (.bool true) (fun w' _ => by go_simp) (fun w' hw' => Calls.out hw' (awakeL _)) (hK _ ?_)
      clear hK K
      simp only [Act.put, List.setIfInBounds_toArray, List.set_cons_zero, List.set_cons_succ]
      refine BigFrame.wpQuiet_want rfl (fun K hK => ?_)
      refine quiet_val (.bool true) (fun _ _ => rfl) (hK _ ?_)
      clear hK K
      simp only [Act.put, List.setIfInBounds_toArray, List.set_cons_zero, List.set_cons_succ]
      refine BigFrame.wpQuiet_want rfl (fun K hK => ?_)
      refine quiet_val (.bool true) (fun w' _ => by go_simp) (hK _ ?_)
      clear hK K
      simp only [Act.put, List.setIfInBounds_toArray, List.set_cons_zero, List.set_cons_succ]
      refine wpQuiet_nil ?_
      intro w' hw'
      have Bw : Hid (Below w.heap.size w w') := below_next BC.out hw'
      clear hw' mR
      go_wp2_with fail
      go_ret
      exact ⟨rfl, Bw.out⟩
set_option maxRecDepth 100000 in
set_option maxHeartbeats 1000000 in
theorem quot_fits_neg (a b d F : Int) (x : Bool) (ph pl qh ql rh rl dh dl : Int) (s c : Int) (w : World) (hd : d < 0)
    (HM : Hid (∀ w, Calls Try.prog 28 #[.int .i64 a, .int .i64 b, .int .i64 d] w fun e w' => e = .returned (.tuple #[.int .i64 F, .bool x, .int .i64 0]) ∧ Below w.heap.size w w'))
    (HP : Hid (∀ w, Calls Try.prog 18 #[.int .i64 a, .int .i64 b] w fun e w' => e = .returned (.agg #[.int .i64 ph, .int .u64 pl]) ∧ Below w.heap.size w w'))
    (HQ : Hid (∀ w, Calls Try.prog 18 #[.int .i64 F, .int .i64 d] w fun e w' => e = .returned (.agg #[.int .i64 qh, .int .u64 ql]) ∧ Below w.heap.size w w'))
    (HS : Hid (∀ w, Calls Try.prog 13 #[.agg #[.int .i64 ph, .int .u64 pl], .agg #[.int .i64 qh, .int .u64 ql]] w fun e w' => e = .returned (.agg #[.int .i64 rh, .int .u64 rl]) ∧ Below w.heap.size w w'))
    (HO : Hid (∀ w, Calls Try.prog 21 #[.int .i64 d] w fun e w' => e = .returned (.agg #[.int .i64 dh, .int .u64 dl]) ∧ Below w.heap.size w w'))
    (HG : Hid (∀ w, Calls Try.prog 25 #[.agg #[.int .i64 rh, .int .u64 rl]] w fun e w' => e = .returned (.int .i64 s) ∧ Below w.heap.size w w'))
    (HC : Hid (∀ w, Calls Try.prog 24 #[.agg #[.int .i64 rh, .int .u64 rl], .agg #[.int .i64 dh, .int .u64 dl]] w fun e w' => e = .returned (.int .i64 c) ∧ Below w.heap.size w w'))
    (hx : (rh == 0 && rl == 0) = x) (hs : s ≤ 0) (hc : 0 < c) :
    Calls Try.prog 7 #[.int .i64 a, .int .i64 b, .int .i64 d] w fun e w' => e = .returned (.bool true) ∧ Below w.heap.size w w' := by
  have hz : (d == 0) = false := by simp; omega
  have hX := Lib.hid hx
  have es : decide (s ≤ 0) = true := by simpa using hs
  have ec : decide (0 < c) = true := by simpa using hc
  have ed : decide (0 < d) = false := by simp; omega
  clear hx
  go_enter Try.func7, Try.ntmps7
  go_wp2_with fail
  refine (HM.out _).mono ?_
  rintro e w1 ⟨rfl, hb1⟩
  have B1 := Lib.hid hb1
  clear hb1
  go_wp2_with fail
  refine (HP.out _).mono ?_
  rintro e w2 ⟨rfl, hb2⟩
  have B2 : Hid (Below w.heap.size w w2) := below_next B1.out hb2
  clear hb2 B1
  go_upto_region 11 with fail
  have mP := NumAt.new w2 ph pl
  have B3 : Hid (Below w.heap.size w (w2.alloc (.cells #[.int .i64 ph, .int .u64 pl] 24))) := B2.out.alloc B2.out.size _
  have lw : w.heap.size ≤ w2.heap.size := B2.out.size
  generalize w2.alloc (.cells #[.int .i64 ph, .int .u64 pl] 24) = W at *
  generalize w2.heap.size = g at *
  clear B2
  go_cut [13] (fun t wx => ∃ k : Nat, t = .pointer (some ⟨k, 0, none⟩) ∧ Hid (NumAt wx k rh rl ∧ Below w.heap.size w wx))
  case first =>
    refine wp_region_noPanic ?_
    have B : Below w.heap.size w W := B3.out
    refine wp_region_held_drew (S := fun w' => NumAt w' g ph pl) (by kernel_rfl) mP (fun hS => ?_)
    refine wpAnyH_take (i := 0) (v := .agg #[.int .i64 ph, .int .u64 pl]) rfl (by kernel_rfl) (by kernel_rfl) (by kernel_rfl) (fun _ _ _ h => h.elim) (.inl ⟨rfl, fun w' hw' => run_numI _ _ _ g _ _ w' rfl rfl hw'⟩) hS ?_
    simp only [Act.put, List.getElem_toArray, List.getElem_cons_zero, List.setIfInBounds_toArray, List.set_cons_zero, List.set_cons_succ]
    refine wpAnyH_take (i := 1) (v := .int .i64 F) rfl (by kernel_rfl) (by kernel_rfl) (by kernel_rfl) (fun _ _ _ h => h.elim) (.inl ⟨rfl, fun w' hw' => by go_simp⟩) hS ?_
    simp only [Act.put, List.getElem_toArray, List.getElem_cons_zero, List.getElem_cons_succ, List.setIfInBounds_toArray, List.set_cons_zero, List.set_cons_succ]
    refine wpAnyH_take (i := 2) (v := .int .i64 d) rfl (by kernel_rfl) (by kernel_rfl) (by kernel_rfl) (fun _ _ _ h => h.elim) (.inl ⟨rfl, fun w' hw' => by go_simp⟩) hS ?_
    simp only [Act.put, List.getElem_toArray, List.getElem_cons_zero, List.getElem_cons_succ, List.setIfInBounds_toArray, List.set_cons_zero, List.set_cons_succ]
    replace B : Below w.heap.size w W.drew := B.drew
    replace mP : NumAt W.drew g ph pl := mP
    generalize W.drew = V at *
    refine wpAnyH_ready (rs := [3, 5]) (by kernel_rfl) (by simp) (AllReadyH.cons rfl (fun K hK => ?_) (AllReadyH.cons rfl (fun K hK => ?_) (AllReadyH.nil)))
    · simp only [List.getElem_toArray, List.getElem_cons_succ, List.getElem_cons_zero]
      go_simp
      refine (HQ.out _).mono ?_
      rintro e W1 ⟨rfl, hb⟩
      replace mP := mP.keep hb
      replace B := below_next B hb
      clear hb
      refine hK.out _ _ mP (fun hS => ?_)
      clear hK
      refine wpAnyH_ready (rs := [4, 5]) (by kernel_rfl) (by simp) (AllReadyH.cons rfl (fun K hK => ?_) (AllReadyH.cons rfl (fun K hK => ?_) (AllReadyH.nil)))
      · simp only [List.getElem_toArray, List.getElem_cons_succ, List.getElem_cons_zero]
        go_simp
        refine (HS.out _).mono ?_
        rintro e W2 ⟨rfl, hb⟩
        replace mP := mP.keep hb
        replace B := below_next B hb
        clear hb
        refine hK.out _ _ mP (fun hS => ?_)
        clear hK
        refine wpAnyH_ready (rs := [5]) (by kernel_rfl) (by simp) (AllReadyH.cons rfl (fun K hK => ?_) (AllReadyH.nil))
        · simp only [List.getElem_toArray, List.getElem_cons_succ, List.getElem_cons_zero]
          go_simp
          have mR : NumAt (World.alloc W2 (.cells #[.int .i64 0, .int .u64 0] 24)) (World.heap W2).size 0 0 := NumAt.new _ 0 0
          have mPlt := mP.lt
          have Bsz := B.size
          replace mP := mP.alloc (.cells #[.int .i64 0, .int .u64 0] 24)
          replace B := B.alloc B.size (.cells #[.int .i64 0, .int .u64 0] 24)
          have hne : g ≠ (World.heap W2).size := by have := mPlt; omega
          have hk : w.heap.size ≤ (World.heap W2).size := Bsz
          refine hK.out _ _ mP (fun hS => ?_)
          clear hK mPlt Bsz
          generalize World.alloc W2 (.cells #[.int .i64 0, .int .u64 0] 24) = W3 at *
          generalize (World.heap W2).size = k3 at *
          refine wpAnyH_ready (rs := [6]) (by kernel_rfl) (by simp) (AllReadyH.cons rfl (fun K hK => ?_) (AllReadyH.nil))
          · simp only [List.getElem_toArray, List.getElem_cons_succ, List.getElem_cons_zero]
            have c0 := mR.c0
            have c1 := mR.c1
            have f0 := mR.free 0
            have f1 := mR.free 1
            have MR := Lib.hid mR
            have MP := Lib.hid mP
            have BB := Lib.hid B
            have HK := Lib.hid hK
            clear mR mP B hK hS
            go_simp
            have mR := MR.out.stored rh rl
            have mP : NumAt _ g ph pl := (MP.out.other ⟨k3, 0, none⟩ (.int .i64 rh) hne).other ⟨k3, 1, none⟩ (.int .u64 rl) hne
            have B := (BB.out.setCell (p := ⟨k3, 0, none⟩) hk (.int .i64 rh)).setCell (p := ⟨k3, 1, none⟩) hk (.int .u64 rl)
            have hK := HK.out
            refine hK.out _ _ mP (fun hS => ?_)
            clear HK MR MP BB
            refine wpAnyH_done (by kernel_rfl) ?_ _
            refine NoPanic.normal ?_
            clear hK
            go_wp2_with fail
            go_meet
            exact ⟨_, rfl, Lib.hid ⟨mR, B⟩⟩
      · simp only [List.getElem_toArray, List.getElem_cons_succ, List.getElem_cons_zero]
        go_simp
        have mR : NumAt (World.alloc W1 (.cells #[.int .i64 0, .int .u64 0] 24)) (World.heap W1).size 0 0 := NumAt.new _ 0 0
        have mPlt := mP.lt
        have Bsz := B.size
        replace mP := mP.alloc (.cells #[.int .i64 0, .int .u64 0] 24)
        replace B := B.alloc B.size (.cells #[.int .i64 0, .int .u64 0] 24)
        have hne : g ≠ (World.heap W1).size := by have := mPlt; omega
        have hk : w.heap.size ≤ (World.heap W1).size := Bsz
        refine hK.out _ _ mP (fun hS => ?_)
        clear hK mPlt Bsz
        generalize World.alloc W1 (.cells #[.int .i64 0, .int .u64 0] 24) = W2 at *
        generalize (World.heap W1).size = k2 at *
        refine wpAnyH_ready (rs := [4]) (by kernel_rfl) (by simp) (AllReadyH.cons rfl (fun K hK => ?_) (AllReadyH.nil))
        · simp only [List.getElem_toArray, List.getElem_cons_succ, List.getElem_cons_zero]
          go_simp
          refine (HS.out _).mono ?_
          rintro e W3 ⟨rfl, hb⟩
          replace mP := mP.keep hb
          replace mR := mR.keep hb
          replace B := below_next B hb
          clear hb
          refine hK.out _ _ mP (fun hS => ?_)
          clear hK
          refine wpAnyH_ready (rs := [6]) (by kernel_rfl) (by simp) (AllReadyH.cons rfl (fun K hK => ?_) (AllReadyH.nil))
          · simp only [List.getElem_toArray, List.getElem_cons_succ, List.getElem_cons_zero]
            have c0 := mR.c0
            have c1 := mR.c1
            have f0 := mR.free 0
            have f1 := mR.free 1
            have MR := Lib.hid mR
            have MP := Lib.hid mP
            have BB := Lib.hid B
            have HK := Lib.hid hK
            clear mR mP B hK hS
            go_simp
            have mR := MR.out.stored rh rl
            have mP : NumAt _ g ph pl := (MP.out.other ⟨k2, 0, none⟩ (.int .i64 rh) hne).other ⟨k2, 1, none⟩ (.int .u64 rl) hne
            have B := (BB.out.setCell (p := ⟨k2, 0, none⟩) hk (.int .i64 rh)).setCell (p := ⟨k2, 1, none⟩) hk (.int .u64 rl)
            have hK := HK.out
            refine hK.out _ _ mP (fun hS => ?_)
            clear HK MR MP BB
            refine wpAnyH_done (by kernel_rfl) ?_ _
            refine NoPanic.normal ?_
            clear hK
            go_wp2_with fail
            go_meet
            exact ⟨_, rfl, Lib.hid ⟨mR, B⟩⟩
    · simp only [List.getElem_toArray, List.getElem_cons_succ, List.getElem_cons_zero]
      go_simp
      have mR : NumAt (World.alloc V (.cells #[.int .i64 0, .int .u64 0] 24)) (World.heap V).size 0 0 := NumAt.new _ 0 0
      have mPlt := mP.lt
      have Bsz := B.size
      replace mP := mP.alloc (.cells #[.int .i64 0, .int .u64 0] 24)
      replace B := B.alloc B.size (.cells #[.int .i64 0, .int .u64 0] 24)
      have hne : g ≠ (World.heap V).size := by have := mPlt; omega
      have hk : w.heap.size ≤ (World.heap V).size := Bsz
      refine hK.out _ _ mP (fun hS => ?_)
      clear hK mPlt Bsz
      generalize World.alloc V (.cells #[.int .i64 0, .int .u64 0] 24) = W1 at *
      generalize (World.heap V).size = k1 at *
      refine wpAnyH_ready (rs := [3]) (by kernel_rfl) (by simp) (AllReadyH.cons rfl (fun K hK => ?_) (AllReadyH.nil))
      · simp only [List.getElem_toArray, List.getElem_cons_succ, List.getElem_cons_zero]
        go_simp
        refine (HQ.out _).mono ?_
        rintro e W2 ⟨rfl, hb⟩
        replace mP := mP.keep hb
        replace mR := mR.keep hb
        replace B := below_next B hb
        clear hb
        refine hK.out _ _ mP (fun hS => ?_)
        clear hK
        refine wpAnyH_ready (rs := [4]) (by kernel_rfl) (by simp) (AllReadyH.cons rfl (fun K hK => ?_) (AllReadyH.nil))
        · simp only [List.getElem_toArray, List.getElem_cons_succ, List.getElem_cons_zero]
          go_simp
          refine (HS.out _).mono ?_
          rintro e W3 ⟨rfl, hb⟩
          replace mP := mP.keep hb
          replace mR := mR.keep hb
          replace B := below_next B hb
          clear hb
          refine hK.out _ _ mP (fun hS => ?_)
          clear hK
          refine wpAnyH_ready (rs := [6]) (by kernel_rfl) (by simp) (AllReadyH.cons rfl (fun K hK => ?_) (AllReadyH.nil))
          · simp only [List.getElem_toArray, List.getElem_cons_succ, List.getElem_cons_zero]
            have c0 := mR.c0
            have c1 := mR.c1
            have f0 := mR.free 0
            have f1 := mR.free 1
            have MR := Lib.hid mR
            have MP := Lib.hid mP
            have BB := Lib.hid B
            have HK := Lib.hid hK
            clear mR mP B hK hS
            go_simp
            have mR := MR.out.stored rh rl
            have mP : NumAt _ g ph pl := (MP.out.other ⟨k1, 0, none⟩ (.int .i64 rh) hne).other ⟨k1, 1, none⟩ (.int .u64 rl) hne
            have B := (BB.out.setCell (p := ⟨k1, 0, none⟩) hk (.int .i64 rh)).setCell (p := ⟨k1, 1, none⟩) hk (.int .u64 rl)
            have hK := HK.out
            refine hK.out _ _ mP (fun hS => ?_)
            clear HK MR MP BB
            refine wpAnyH_done (by kernel_rfl) ?_ _
            refine NoPanic.normal ?_
            clear hK
            go_wp2_with fail
            go_meet
            exact ⟨_, rfl, Lib.hid ⟨mR, B⟩⟩
  case rest =>
    obtain ⟨k, rfl, hk⟩ := hcut
    have mR := hk.out.1
    have BC := Lib.hid hk.out.2
    have c0 := mR.c0
    have c1 := mR.c1
    have f0 := mR.free 0
    have f1 := mR.free 1
    have MR := Lib.hid mR
    have hx := hX.out
    clear hk mR
    cases x
    · by_cases e1 : rh = 0
      · subst e1
        have e2 : ¬ rl = 0 := fun h => by subst h; exact absurd hx (by decide)
        have e3 : (rl == 0) = false := by simpa using e2
        clear hx hX
        go_wp2_with fail
        have mR := MR.out
        have hsz : wc.heap.size ≤ wc.heap.size := Nat.le_refl _
        refine wp_region_quiet (C := Out wc) (by kernel_rfl) (by kernel_rfl) ⟨rfl, rfl, rfl, Nat.le_refl _, fun _ _ => rfl⟩ ?_
        refine BigFrame.wpQuiet_want rfl (fun K hK => ?_)
        refine quiet_val (.agg #[.int .i64 0, .int .u64 rl]) (fun w' hw' => run_numI _ _ _ k _ _ w' rfl rfl ((Below.block hw' k mR.lt).trans mR)) (hK _ ?_)
        clear hK K
        simp only [Act.put, List.setIfInBounds_toArray, List.set_cons_zero, List.set_cons_succ]
        refine BigFrame.wpQuiet_want rfl (fun K hK => ?_)
        refine quiet_call 25 #[.agg #[.int .i64 0, .int .u64 rl]] (.int .i64 s) (fun w' _ => by go_simp) (fun w' hw' => Calls.out hw' (HG.out _)) (hK _ ?_)
        clear hK K
        simp only [Act.put, List.setIfInBounds_toArray, List.set_cons_zero, List.set_cons_succ]
        refine BigFrame.wpQuiet_want rfl (fun K hK => ?_)
        refine quiet_val (.bool true) (fun w' _ => by go_simp) (hK _ ?_)
        clear hK K
        simp only [Act.put, List.setIfInBounds_toArray, List.set_cons_zero, List.set_cons_succ]
        refine BigFrame.wpQuiet_want rfl (fun K hK => ?_)
        refine quiet_val (.bool true) (fun w' _ => by go_simp) (hK _ ?_)
        clear hK K
        simp only [Act.put, List.setIfInBounds_toArray, List.set_cons_zero, List.set_cons_succ]
        refine BigFrame.wpQuiet_want rfl (fun K hK => ?_)
        refine quiet_val (.agg #[.int .i64 0, .int .u64 rl]) (fun w' hw' => run_numI _ _ _ k _ _ w' rfl rfl ((Below.block hw' k mR.lt).trans mR)) (hK _ ?_)
        clear hK K
        simp only [Act.put, List.setIfInBounds_toArray, List.set_cons_zero, List.set_cons_succ]
        refine BigFrame.wpQuiet_want rfl (fun K hK => ?_)
        refine quiet_val (.int .i64 d) (fun w' _ => by go_simp) (hK _ ?_)
        clear hK K
        simp only [Act.put, List.setIfInBounds_toArray, List.set_cons_zero, List.set_cons_succ]
        refine BigFrame.wpQuiet_want rfl (fun K hK => ?_)
        refine quiet_call 21 #[.int .i64 d] (.agg #[.int .i64 dh, .int .u64 dl]) (fun w' _ => by go_simp) (fun w' hw' => Calls.out hw' (HO.out _)) (hK _ ?_)
        clear hK K
        simp only [Act.put, List.setIfInBounds_toArray, List.set_cons_zero, List.set_cons_succ]
        refine BigFrame.wpQuiet_want rfl (fun K hK => ?_)
        refine quiet_call 24 #[.agg #[.int .i64 0, .int .u64 rl], .agg #[.int .i64 dh, .int .u64 dl]] (.int .i64 c) (fun w' _ => by go_simp) (fun w' hw' => Calls.out hw' (HC.out _)) (hK _ ?_)
        clear hK K
        simp only [Act.put, List.setIfInBounds_toArray, List.set_cons_zero, List.set_cons_succ]
        refine BigFrame.wpQuiet_want rfl (fun K hK => ?_)
        refine quiet_val (.bool true) (fun w' _ => by go_simp) (hK _ ?_)
        clear hK K
        simp only [Act.put, List.setIfInBounds_toArray, List.set_cons_zero, List.set_cons_succ]
        refine BigFrame.wpQuiet_want rfl (fun K hK => ?_)
        refine quiet_val (.bool true) (fun _ _ => rfl) (hK _ ?_)
        clear hK K
        simp only [Act.put, List.setIfInBounds_toArray, List.set_cons_zero, List.set_cons_succ]
        refine BigFrame.wpQuiet_want rfl (fun K hK => ?_)
        refine quiet_val (.bool true) (fun w' _ => by go_simp) (hK _ ?_)
        clear hK K
        simp only [Act.put, List.setIfInBounds_toArray, List.set_cons_zero, List.set_cons_succ]
        refine BigFrame.wpQuiet_want rfl (fun K hK => ?_)
        refine quiet_call 17 #[] (.bool true) (fun w' _ => by go_simp) (fun w' hw' => Calls.out hw' (awakeL _)) (hK _ ?_)
        clear hK K
        simp only [Act.put, List.setIfInBounds_toArray, List.set_cons_zero, List.set_cons_succ]
        refine BigFrame.wpQuiet_want rfl (fun K hK => ?_)
        refine quiet_val (.bool true) (fun _ _ => rfl) (hK _ ?_)
        clear hK K
        simp only [Act.put, List.setIfInBounds_toArray, List.set_cons_zero, List.set_cons_succ]
        refine BigFrame.wpQuiet_want rfl (fun K hK => ?_)
        refine quiet_val (.bool true) (fun w' _ => by go_simp) (hK _ ?_)
        clear hK K
        simp only [Act.put, List.setIfInBounds_toArray, List.set_cons_zero, List.set_cons_succ]
        refine wpQuiet_nil ?_
        intro w' hw'
        have Bw : Hid (Below w.heap.size w w') := below_next BC.out hw'
        clear hw' mR
        go_wp2_with fail
        go_ret
        exact ⟨rfl, Bw.out⟩
      · have e3 : (rh == 0) = false := by simpa using e1
        clear hx hX
        go_wp2_with fail
        have mR := MR.out
        have hsz : wc.heap.size ≤ wc.heap.size := Nat.le_refl _
        refine wp_region_quiet (C := Out wc) (by kernel_rfl) (by kernel_rfl) ⟨rfl, rfl, rfl, Nat.le_refl _, fun _ _ => rfl⟩ ?_
        refine BigFrame.wpQuiet_want rfl (fun K hK => ?_)
        refine quiet_val (.agg #[.int .i64 rh, .int .u64 rl]) (fun w' hw' => run_numI _ _ _ k _ _ w' rfl rfl ((Below.block hw' k mR.lt).trans mR)) (hK _ ?_)
        clear hK K
        simp only [Act.put, List.setIfInBounds_toArray, List.set_cons_zero, List.set_cons_succ]
        refine BigFrame.wpQuiet_want rfl (fun K hK => ?_)
        refine quiet_call 25 #[.agg #[.int .i64 rh, .int .u64 rl]] (.int .i64 s) (fun w' _ => by go_simp) (fun w' hw' => Calls.out hw' (HG.out _)) (hK _ ?_)
        clear hK K
        simp only [Act.put, List.setIfInBounds_toArray, List.set_cons_zero, List.set_cons_succ]
        refine BigFrame.wpQuiet_want rfl (fun K hK => ?_)
        refine quiet_val (.bool true) (fun w' _ => by go_simp) (hK _ ?_)
        clear hK K
        simp only [Act.put, List.setIfInBounds_toArray, List.set_cons_zero, List.set_cons_succ]
        refine BigFrame.wpQuiet_want rfl (fun K hK => ?_)
        refine quiet_val (.bool true) (fun w' _ => by go_simp) (hK _ ?_)
        clear hK K
        simp only [Act.put, List.setIfInBounds_toArray, List.set_cons_zero, List.set_cons_succ]
        refine BigFrame.wpQuiet_want rfl (fun K hK => ?_)
        refine quiet_val (.agg #[.int .i64 rh, .int .u64 rl]) (fun w' hw' => run_numI _ _ _ k _ _ w' rfl rfl ((Below.block hw' k mR.lt).trans mR)) (hK _ ?_)
        clear hK K
        simp only [Act.put, List.setIfInBounds_toArray, List.set_cons_zero, List.set_cons_succ]
        refine BigFrame.wpQuiet_want rfl (fun K hK => ?_)
        refine quiet_val (.int .i64 d) (fun w' _ => by go_simp) (hK _ ?_)
        clear hK K
        simp only [Act.put, List.setIfInBounds_toArray, List.set_cons_zero, List.set_cons_succ]
        refine BigFrame.wpQuiet_want rfl (fun K hK => ?_)
        refine quiet_call 21 #[.int .i64 d] (.agg #[.int .i64 dh, .int .u64 dl]) (fun w' _ => by go_simp) (fun w' hw' => Calls.out hw' (HO.out _)) (hK _ ?_)
        clear hK K
        simp only [Act.put, List.setIfInBounds_toArray, List.set_cons_zero, List.set_cons_succ]
        refine BigFrame.wpQuiet_want rfl (fun K hK => ?_)
        refine quiet_call 24 #[.agg #[.int .i64 rh, .int .u64 rl], .agg #[.int .i64 dh, .int .u64 dl]] (.int .i64 c) (fun w' _ => by go_simp) (fun w' hw' => Calls.out hw' (HC.out _)) (hK _ ?_)
        clear hK K
        simp only [Act.put, List.setIfInBounds_toArray, List.set_cons_zero, List.set_cons_succ]
        refine BigFrame.wpQuiet_want rfl (fun K hK => ?_)
        refine quiet_val (.bool true) (fun w' _ => by go_simp) (hK _ ?_)
        clear hK K
        simp only [Act.put, List.setIfInBounds_toArray, List.set_cons_zero, List.set_cons_succ]
        refine BigFrame.wpQuiet_want rfl (fun K hK => ?_)
        refine quiet_val (.bool true) (fun _ _ => rfl) (hK _ ?_)
        clear hK K
        simp only [Act.put, List.setIfInBounds_toArray, List.set_cons_zero, List.set_cons_succ]
        refine BigFrame.wpQuiet_want rfl (fun K hK => ?_)
        refine quiet_val (.bool true) (fun w' _ => by go_simp) (hK _ ?_)
        clear hK K
        simp only [Act.put, List.setIfInBounds_toArray, List.set_cons_zero, List.set_cons_succ]
        refine BigFrame.wpQuiet_want rfl (fun K hK => ?_)
        refine quiet_call 17 #[] (.bool true) (fun w' _ => by go_simp) (fun w' hw' => Calls.out hw' (awakeL _)) (hK _ ?_)
        clear hK K
        simp only [Act.put, List.setIfInBounds_toArray, List.set_cons_zero, List.set_cons_succ]
        refine BigFrame.wpQuiet_want rfl (fun K hK => ?_)
        refine quiet_val (.bool true) (fun _ _ => rfl) (hK _ ?_)
        clear hK K
        simp only [Act.put, List.setIfInBounds_toArray, List.set_cons_zero, List.set_cons_succ]
        refine BigFrame.wpQuiet_want rfl (fun K hK => ?_)
        refine quiet_val (.bool true) (fun w' _ => by go_simp) (hK _ ?_)
        clear hK K
        simp only [Act.put, List.setIfInBounds_toArray, List.set_cons_zero, List.set_cons_succ]
        refine wpQuiet_nil ?_
        intro w' hw'
        have Bw : Hid (Below w.heap.size w w') := below_next BC.out hw'
        clear hw' mR
        go_wp2_with fail
        go_ret
        exact ⟨rfl, Bw.out⟩
    · obtain ⟨e1, e2⟩ : rh = 0 ∧ rl = 0 := by simpa using hx
      clear hx hX
      subst e1 e2
      go_wp2_with fail
      have mR := MR.out
      have hsz : wc.heap.size ≤ wc.heap.size := Nat.le_refl _
      refine wp_region_quiet (C := Out wc) (by kernel_rfl) (by kernel_rfl) ⟨rfl, rfl, rfl, Nat.le_refl _, fun _ _ => rfl⟩ ?_
      refine BigFrame.wpQuiet_want rfl (fun K hK => ?_)
      refine quiet_val (.agg #[.int .i64 0, .int .u64 0]) (fun w' hw' => run_numI _ _ _ k _ _ w' rfl rfl ((Below.block hw' k mR.lt).trans mR)) (hK _ ?_)
      clear hK K
      simp only [Act.put, List.setIfInBounds_toArray, List.set_cons_zero, List.set_cons_succ]
      refine BigFrame.wpQuiet_want rfl (fun K hK => ?_)
      refine quiet_call 25 #[.agg #[.int .i64 0, .int .u64 0]] (.int .i64 s) (fun w' _ => by go_simp) (fun w' hw' => Calls.out hw' (HG.out _)) (hK _ ?_)
      clear hK K
      simp only [Act.put, List.setIfInBounds_toArray, List.set_cons_zero, List.set_cons_succ]
      refine BigFrame.wpQuiet_want rfl (fun K hK => ?_)
      refine quiet_val (.bool true) (fun w' _ => by go_simp) (hK _ ?_)
      clear hK K
      simp only [Act.put, List.setIfInBounds_toArray, List.set_cons_zero, List.set_cons_succ]
      refine BigFrame.wpQuiet_want rfl (fun K hK => ?_)
      refine quiet_val (.bool true) (fun w' _ => by go_simp) (hK _ ?_)
      clear hK K
      simp only [Act.put, List.setIfInBounds_toArray, List.set_cons_zero, List.set_cons_succ]
      refine BigFrame.wpQuiet_want rfl (fun K hK => ?_)
      refine quiet_val (.agg #[.int .i64 0, .int .u64 0]) (fun w' hw' => run_numI _ _ _ k _ _ w' rfl rfl ((Below.block hw' k mR.lt).trans mR)) (hK _ ?_)
      clear hK K
      simp only [Act.put, List.setIfInBounds_toArray, List.set_cons_zero, List.set_cons_succ]
      refine BigFrame.wpQuiet_want rfl (fun K hK => ?_)
      refine quiet_val (.int .i64 d) (fun w' _ => by go_simp) (hK _ ?_)
      clear hK K
      simp only [Act.put, List.setIfInBounds_toArray, List.set_cons_zero, List.set_cons_succ]
      refine BigFrame.wpQuiet_want rfl (fun K hK => ?_)
      refine quiet_call 21 #[.int .i64 d] (.agg #[.int .i64 dh, .int .u64 dl]) (fun w' _ => by go_simp) (fun w' hw' => Calls.out hw' (HO.out _)) (hK _ ?_)
      clear hK K
      simp only [Act.put, List.setIfInBounds_toArray, List.set_cons_zero, List.set_cons_succ]
      refine BigFrame.wpQuiet_want rfl (fun K hK => ?_)
      refine quiet_call 24 #[.agg #[.int .i64 0, .int .u64 0], .agg #[.int .i64 dh, .int .u64 dl]] (.int .i64 c) (fun w' _ => by go_simp) (fun w' hw' => Calls.out hw' (HC.out _)) (hK _ ?_)
      clear hK K
      simp only [Act.put, List.setIfInBounds_toArray, List.set_cons_zero, List.set_cons_succ]
      refine BigFrame.wpQuiet_want rfl (fun K hK => ?_)
      refine quiet_val (.bool true) (fun w' _ => by go_simp) (hK _ ?_)
      clear hK K
      simp only [Act.put, List.setIfInBounds_toArray, List.set_cons_zero, List.set_cons_succ]
      refine BigFrame.wpQuiet_want rfl (fun K hK => ?_)
      refine quiet_val (.bool true) (fun _ _ => rfl) (hK _ ?_)
      clear hK K
      simp only [Act.put, List.setIfInBounds_toArray, List.set_cons_zero, List.set_cons_succ]
      refine BigFrame.wpQuiet_want rfl (fun K hK => ?_)
      refine quiet_val (.bool true) (fun w' _ => by go_simp) (hK _ ?_)
      clear hK K
      simp only [Act.put, List.setIfInBounds_toArray, List.set_cons_zero, List.set_cons_succ]
      refine BigFrame.wpQuiet_want rfl (fun K hK => ?_)
      refine quiet_call 17 #[] (.bool true) (fun w' _ => by go_simp) (fun w' hw' => Calls.out hw' (awakeL _)) (hK _ ?_)
      clear hK K
      simp only [Act.put, List.setIfInBounds_toArray, List.set_cons_zero, List.set_cons_succ]
      refine BigFrame.wpQuiet_want rfl (fun K hK => ?_)
      refine quiet_val (.bool true) (fun _ _ => rfl) (hK _ ?_)
      clear hK K
      simp only [Act.put, List.setIfInBounds_toArray, List.set_cons_zero, List.set_cons_succ]
      refine BigFrame.wpQuiet_want rfl (fun K hK => ?_)
      refine quiet_val (.bool true) (fun w' _ => by go_simp) (hK _ ?_)
      clear hK K
      simp only [Act.put, List.setIfInBounds_toArray, List.set_cons_zero, List.set_cons_succ]
      refine wpQuiet_nil ?_
      intro w' hw'
      have Bw : Hid (Below w.heap.size w w') := below_next BC.out hw'
      clear hw' mR
      go_wp2_with fail
      go_ret
      exact ⟨rfl, Bw.out⟩
end Go.Proofs.Ytgkgdkdendmfnaa
