/- The law on boxes. -/
import Derived.Test.YtbllbncmeihaaaaHr
namespace Go.Proofs.Ytbllbncmeihaaaa
open Go.RowKit
theorem below_n {m : Nat} {w a b : World} (h : Below m w a) (k : Below a.heap.size a b) (hm : m ≤ a.heap.size) : Below m w b := h.trans (k.mono hm)
set_option maxHeartbeats 8000000 in
set_option maxRecDepth 100000 in
theorem boxes_law (a b : Bx) (px py : Int) (w : World) : Calls Try.prog 7 #[.agg #[.int .i64 a.x0, .int .i64 a.y0, .int .i64 a.x1, .int .i64 a.y1], .agg #[.int .i64 b.x0, .int .i64 b.y0, .int .i64 b.x1, .int .i64 b.y1], .agg #[.int .i64 px, .int .i64 py]] w fun e w' => e = .returned (.bool true) ∧ Below w.heap.size w w' := by
  have HAW := Lib.hid awake_c
  have HME := Lib.hid (meet_c a b)
  have HJO := Lib.hid (join_c a b)
  have HME2 := Lib.hid (meet_c b a)
  have HJO2 := Lib.hid (join_c b a)
  rw [meet_comm] at HME2
  rw [join_comm] at HJO2
  have HHA := Lib.hid (has_c a px py)
  have HHM := Lib.hid (has_c (meetI a b) px py)
  have HHJ := Lib.hid (has_c (joinI a b) px py)
  rw [meet_has] at HHM
  have HEA := Lib.hid (empty_c a)
  have HNA := Lib.hid (none_c a)
  have HNB := Lib.hid (none_c b)
  have HNM := Lib.hid (none_c (meetI a b))
  have HCA : Hid (∀ w, Blk w (w.heap.size - w.heap.size + (w.heap.size)) 0 #[] → True) := fun _ _ => trivial
  clear HCA
  have HJH := Lib.hid (join_has a b px py)
  have HMN := Lib.hid (meet_none a b)
  have HJD : Hid (joinI a b = if emptyI a = true then (if emptyI b = true then ⟨0, 0, 0, 0⟩ else b) else if emptyI b = true then a else join0 a b) := rfl
  have hmf : ∀ (fn : Fn) (first cap : Array Value) (w : World), (Instr.makeFunc fn first cap).run Try.prog w = .ok (.func fn first cap) w := fun _ _ _ _ => rfl
  generalize meetI a b = m at *
  generalize joinI a b = j at *
  have HC1 := Lib.hid has1_walk
  obtain ⟨ha, hha⟩ : ∃ x, hasI a px py = x := ⟨_, rfl⟩
  obtain ⟨hb, hhb⟩ : ∃ x, hasI b px py = x := ⟨_, rfl⟩
  obtain ⟨hj, hhj⟩ : ∃ x, hasI j px py = x := ⟨_, rfl⟩
  obtain ⟨ea, hea⟩ : ∃ x, emptyI a = x := ⟨_, rfl⟩
  obtain ⟨eb, heb⟩ : ∃ x, emptyI b = x := ⟨_, rfl⟩
  obtain ⟨em, hem⟩ : ∃ x, emptyI m = x := ⟨_, rfl⟩
  rw [hha, hhb] at HHM
  rw [hha] at HHA
  rw [hhj] at HHJ
  rw [hea] at HEA HNA
  rw [heb] at HNB
  rw [hem] at HNM HMN
  rw [hha, hhb, hhj] at HJH
  rw [hea, heb] at HJD
  have HCA : Hid (∀ w g, Blk w g 23 (two (px, py)) → Calls Try.prog 21 #[.agg #[.int .i64 a.x0, .int .i64 a.y0, .int .i64 a.x1, .int .i64 a.y1], .pointer (some ⟨g, 0, none⟩)] w fun e w' => e = .returned (.bool ha) ∧ Below w.heap.size w w') := fun w g h => hha ▸ HC1.out a g px py w h
  have HCB : Hid (∀ w g, Blk w g 23 (two (px, py)) → Calls Try.prog 21 #[.agg #[.int .i64 b.x0, .int .i64 b.y0, .int .i64 b.x1, .int .i64 b.y1], .pointer (some ⟨g, 0, none⟩)] w fun e w' => e = .returned (.bool hb) ∧ Below w.heap.size w w') := fun w g h => hhb ▸ HC1.out b g px py w h
  clear HC1 hha hhb hhj hea heb hem
  go_enter Try.func7, Try.ntmps7
  go_wp2_with fail
  obtain ⟨W, hW⟩ : ∃ W, ((w.alloc (.cells (four a) 41)).alloc (.cells (four b) 41)).alloc (.cells #[.int .i64 px, .int .i64 py] 23) = W := ⟨_, rfl⟩
  have ka : Blk W w.heap.size 41 (four a) := by rw [← hW]; exact ((Blk.newAt _ _ _ rfl).alloc _).alloc _
  have kb : Blk W (w.heap.size + 1) 41 (four b) := by rw [← hW]; exact (Blk.newAt _ _ _ (by simp)).alloc _
  have kp : Blk W (w.heap.size + 2) 23 (two (px, py)) := by rw [← hW]; exact Blk.newAt _ _ _ (by simp)
  have hB : Below w.heap.size w W := by rw [← hW]; exact (((Below.refl _ _).alloc (Nat.le_refl _) _).alloc (by simp) _).alloc (by simp; omega) _
  rw [hW]
  clear hW
  obtain ⟨n, hn⟩ : ∃ n, w.heap.size = n := ⟨_, rfl⟩
  simp only [hn] at ka kb kp hB ⊢
  have HF : Hid (∀ w', Below W.heap.size W w' → BxAt w' n a ∧ BxAt w' (n + 1) b) := fun w' h => ⟨(ka.grow h).at4, (kb.grow h).at4⟩
  have HB := Lib.hid hB; have Hn := Lib.hid hn; have KA := Lib.hid ka; have KB := Lib.hid kb; have KP := Lib.hid kp
  have hnW : n < W.heap.size := ka.lt
  clear ka kb kp hB hn
  refine wp_region_put (by kernel_rfl) (by kernel_rfl) (by kernel_rfl) (fun b' vs w' => (b' 0 = true → vs 0 = .agg #[.int .i64 a.x0, .int .i64 a.y0, .int .i64 a.x1, .int .i64 a.y1]) ∧ (b' 1 = true → vs 1 = .agg #[.int .i64 b.x0, .int .i64 b.y0, .int .i64 b.x1, .int .i64 b.y1]) ∧ (b' 2 = true → vs 2 = .agg #[.int .i64 m.x0, .int .i64 m.y0, .int .i64 m.x1, .int .i64 m.y1]) ∧ (b' 3 = true → vs 3 = .agg #[.int .i64 a.x0, .int .i64 a.y0, .int .i64 a.x1, .int .i64 a.y1]) ∧ (b' 4 = true → vs 4 = .agg #[.int .i64 b.x0, .int .i64 b.y0, .int .i64 b.x1, .int .i64 b.y1]) ∧ (b' 5 = true → vs 5 = .agg #[.int .i64 j.x0, .int .i64 j.y0, .int .i64 j.x1, .int .i64 j.y1]) ∧ Hid (LayM W 41 (four ⟨0, 0, 0, 0⟩) [⟨6, 8, four m⟩, ⟨7, 9, four j⟩] b' vs w')) ?_ ?_ ?_
  · intro vs
    exact ⟨fun h => Bool.noConfusion h, fun h => Bool.noConfusion h, fun h => Bool.noConfusion h, fun h => Bool.noConfusion h, fun h => Bool.noConfusion h, fun h => Bool.noConfusion h, LayM.start vs⟩
  · rintro b' vs w' i op hi hun hall ⟨h0, h1, h2, h3, h4, h5, hM⟩
    have hil : i < 10 := (List.getElem?_eq_some_iff.1 hi).1
    have hbelow := LayM.below hM.out
    rcases i with _ | _ | _ | _ | _ | _ | _ | _ | _ | _ | i
    · obtain rfl := Option.some.inj hi
      obtain ⟨⟨a0, a1, a2, a3⟩, b0, b1, b2, b3⟩ := HF.out _ hbelow
      refine wpOp_step rfl (fun K hK => ?_)
      have HKK := Lib.hid hK; clear hK
      simp only [putAll, Act.put, List.setIfInBounds_toArray, List.set_cons_zero, List.set_cons_succ]
      go_simp
      exact HKK.out _ _ ⟨_, by simp only [putAll, Act.put, List.setIfInBounds_toArray, List.set_cons_zero, List.set_cons_succ] <;> rfl, fun _ => rfl, h1, h2, h3, h4, h5, LayM.other hM.out 0 _ rfl⟩
    · obtain rfl := Option.some.inj hi
      obtain ⟨⟨a0, a1, a2, a3⟩, b0, b1, b2, b3⟩ := HF.out _ hbelow
      refine wpOp_step rfl (fun K hK => ?_)
      have HKK := Lib.hid hK; clear hK
      simp only [putAll, Act.put, List.setIfInBounds_toArray, List.set_cons_zero, List.set_cons_succ]
      go_simp
      exact HKK.out _ _ ⟨_, by simp only [putAll, Act.put, List.setIfInBounds_toArray, List.set_cons_zero, List.set_cons_succ] <;> rfl, h0, fun _ => rfl, h2, h3, h4, h5, LayM.other hM.out 1 _ rfl⟩
    · obtain rfl := Option.some.inj hi
      have d0 := h0 (hall ⟨0, .data⟩ (by simp) rfl)
      have d1 := h1 (hall ⟨1, .data⟩ (by simp) rfl)
      refine wpOp_step rfl (fun K hK => ?_)
      have HKK := Lib.hid hK; clear hK
      simp only [putAll, Act.put, List.setIfInBounds_toArray, List.set_cons_zero, List.set_cons_succ]
      go_simp
      refine (HME.out _).mono ?_
      rintro e w2 ⟨rfl, hb2⟩
      exact HKK.out _ _ ⟨_, by simp only [putAll, Act.put, List.setIfInBounds_toArray, List.set_cons_zero, List.set_cons_succ, d0, d1] <;> rfl, h0, h1, fun _ => rfl, h3, h4, h5, (LayM.other hM.out 2 _ rfl).grow hb2⟩
    · obtain rfl := Option.some.inj hi
      obtain ⟨⟨a0, a1, a2, a3⟩, b0, b1, b2, b3⟩ := HF.out _ hbelow
      refine wpOp_step rfl (fun K hK => ?_)
      have HKK := Lib.hid hK; clear hK
      simp only [putAll, Act.put, List.setIfInBounds_toArray, List.set_cons_zero, List.set_cons_succ]
      go_simp
      exact HKK.out _ _ ⟨_, by simp only [putAll, Act.put, List.setIfInBounds_toArray, List.set_cons_zero, List.set_cons_succ] <;> rfl, h0, h1, h2, fun _ => rfl, h4, h5, LayM.other hM.out 3 _ rfl⟩
    · obtain rfl := Option.some.inj hi
      obtain ⟨⟨a0, a1, a2, a3⟩, b0, b1, b2, b3⟩ := HF.out _ hbelow
      refine wpOp_step rfl (fun K hK => ?_)
      have HKK := Lib.hid hK; clear hK
      simp only [putAll, Act.put, List.setIfInBounds_toArray, List.set_cons_zero, List.set_cons_succ]
      go_simp
      exact HKK.out _ _ ⟨_, by simp only [putAll, Act.put, List.setIfInBounds_toArray, List.set_cons_zero, List.set_cons_succ] <;> rfl, h0, h1, h2, h3, fun _ => rfl, h5, LayM.other hM.out 4 _ rfl⟩
    · obtain rfl := Option.some.inj hi
      have d3 := h3 (hall ⟨3, .data⟩ (by simp) rfl)
      have d4 := h4 (hall ⟨4, .data⟩ (by simp) rfl)
      refine wpOp_step rfl (fun K hK => ?_)
      have HKK := Lib.hid hK; clear hK
      simp only [putAll, Act.put, List.setIfInBounds_toArray, List.set_cons_zero, List.set_cons_succ]
      go_simp
      refine (HJO.out _).mono ?_
      rintro e w2 ⟨rfl, hb2⟩
      exact HKK.out _ _ ⟨_, by simp only [putAll, Act.put, List.setIfInBounds_toArray, List.set_cons_zero, List.set_cons_succ, d3, d4] <;> rfl, h0, h1, h2, h3, h4, fun _ => rfl, (LayM.other hM.out 5 _ rfl).grow hb2⟩
    · obtain rfl := Option.some.inj hi
      refine wpOp_step rfl (fun K hK => ?_)
      have HKK := Lib.hid hK; clear hK
      simp only [putAll, Act.put, List.setIfInBounds_toArray, List.set_cons_zero, List.set_cons_succ]
      go_simp
      exact HKK.out _ _ ⟨_, by simp only [putAll, Act.put, List.setIfInBounds_toArray, List.set_cons_zero, List.set_cons_succ] <;> rfl, h0, h1, h2, h3, h4, h5, LayM.made hM.out rfl ⟨6, 8, four m⟩ (by simp) hun⟩
    · obtain rfl := Option.some.inj hi
      refine wpOp_step rfl (fun K hK => ?_)
      have HKK := Lib.hid hK; clear hK
      simp only [putAll, Act.put, List.setIfInBounds_toArray, List.set_cons_zero, List.set_cons_succ]
      go_simp
      exact HKK.out _ _ ⟨_, by simp only [putAll, Act.put, List.setIfInBounds_toArray, List.set_cons_zero, List.set_cons_succ] <;> rfl, h0, h1, h2, h3, h4, h5, LayM.made hM.out rfl ⟨7, 9, four j⟩ (by simp) hun⟩
    · obtain rfl := Option.some.inj hi
      have d2 := h2 (hall ⟨2, .data⟩ (by simp) rfl)
      have dal := hall ⟨6, .data⟩ (by simp) rfl
      obtain ⟨g, eg, lg, kg⟩ := LayM.at hM.out ⟨6, 8, four m⟩ (by simp) dal hun
      have kg' : Blk w' g 41 (four ⟨0, 0, 0, 0⟩) := kg
      have c0 := kg'.b0; have c1 := kg'.b1; have c2 := kg'.b2; have c3 := kg'.b3
      have f0 := kg.free 0; have f1 := kg.free 1; have f2 := kg.free 2; have f3 := kg.free 3
      simp only at c0 c1 c2 c3
      have lgw := kg.lt
      refine wpOp_step rfl (fun K hK => ?_)
      have HKK := Lib.hid hK; clear hK
      simp only [putAll, Act.put, List.setIfInBounds_toArray, List.set_cons_zero, List.set_cons_succ]
      go_simp
      exact HKK.out _ _ ⟨_, by simp only [putAll, Act.put, List.setIfInBounds_toArray, List.set_cons_zero, List.set_cons_succ, d2, eg] <;> rfl, h0, h1, h2, h3, h4, h5, LayM.stored hM.out rfl ⟨6, 8, four m⟩ (by simp) undef dal eg (below_four hbelow lg _ _ _ _) (Blk.setB kg' m) (fun g' cs hne k => k.otherB hne _ _ _ _)⟩
    · obtain rfl := Option.some.inj hi
      have d5 := h5 (hall ⟨5, .data⟩ (by simp) rfl)
      have dal := hall ⟨7, .data⟩ (by simp) rfl
      obtain ⟨g, eg, lg, kg⟩ := LayM.at hM.out ⟨7, 9, four j⟩ (by simp) dal hun
      have kg' : Blk w' g 41 (four ⟨0, 0, 0, 0⟩) := kg
      have c0 := kg'.b0; have c1 := kg'.b1; have c2 := kg'.b2; have c3 := kg'.b3
      have f0 := kg.free 0; have f1 := kg.free 1; have f2 := kg.free 2; have f3 := kg.free 3
      simp only at c0 c1 c2 c3
      have lgw := kg.lt
      refine wpOp_step rfl (fun K hK => ?_)
      have HKK := Lib.hid hK; clear hK
      simp only [putAll, Act.put, List.setIfInBounds_toArray, List.set_cons_zero, List.set_cons_succ]
      go_simp
      exact HKK.out _ _ ⟨_, by simp only [putAll, Act.put, List.setIfInBounds_toArray, List.set_cons_zero, List.set_cons_succ, d5, eg] <;> rfl, h0, h1, h2, h3, h4, h5, LayM.stored hM.out rfl ⟨7, 9, four j⟩ (by simp) undef dal eg (below_four hbelow lg _ _ _ _) (Blk.setB kg' j) (fun g' cs hne k => k.otherB hne _ _ _ _)⟩
    · omega
  · rintro b' vs w1 hall ⟨h0, h1, h2, h3, h4, h5, hM⟩
    have d0 := h0 (hall 0 (by simp)); have d1 := h1 (hall 1 (by simp)); have d2 := h2 (hall 2 (by simp)); have d3 := h3 (hall 3 (by simp)); have d4 := h4 (hall 4 (by simp)); have d5 := h5 (hall 5 (by simp))
    obtain ⟨g7, e7, _, k7⟩ := LayM.done hM.out ⟨6, 8, four m⟩ (by simp) (hall 6 (by simp)) (hall 8 (by simp))
    obtain ⟨g8, e8, _, k8⟩ := LayM.done hM.out ⟨7, 9, four j⟩ (by simp) (hall 7 (by simp)) (hall 9 (by simp))
    have hbl := LayM.below hM.out
    have V1 : Hid (Five w1 n g7 g8 a b px py m j) := ⟨KA.out.grow hbl, KB.out.grow hbl, KP.out.grow hbl, k7, k8⟩
    have B1 : Hid (Below n w w1) := HB.out.trans (hbl.mono (by omega))
    simp only [putAll, Act.put, List.setIfInBounds_toArray, List.set_cons_zero, List.set_cons_succ, d0, d1, d2, d3, d4, d5, e7, e8]
    clear h0 h1 h2 h3 h4 h5 hM hbl hall e7 e8 k7 k8 d0 d1 d2 d3 d4 d5 KA KB KP HF HB
    have lt1 := V1.out.1.lt
    go_upto_region 4 with fail
    go_cut [71] from 18 to 71 (fun c wx => c = .bool false ∧ Hid (Five wx n g7 g8 a b px py m j ∧ Below n w wx))
    case first =>
      have HV : Hid (∀ w', Out w1 w' → Five w' n g7 g8 a b px py m j) := fun w' h => V1.out.grow h
      have HP : Hid (∀ w', Out w1 w' → Blk w' (n + 2) 23 (two (px, py))) := fun w' h => (V1.out.grow h).2.2.1
      cases ha
      · refine wp_region_quiet (C := Out w1) (by kernel_rfl) (by kernel_rfl) ⟨rfl, rfl, rfl, Nat.le_refl _, fun _ _ => rfl⟩ ?_
        refine BigFrame.wpQuiet_want rfl (fun K hK => ?_)
        refine quiet_val (.agg #[.int .i64 a.x0, .int .i64 a.y0, .int .i64 a.x1, .int .i64 a.y1]) (fun w' hw' => by obtain ⟨⟨a0, a1, a2, a3⟩, ⟨b0, b1, b2, b3⟩, ⟨p0, p1⟩, ⟨m0, m1, m2, m3⟩, j0, j1, j2, j3⟩ := (HV.out _ hw').cells; go_simp) (hK _ ?_)
        clear hK K
        simp only [Act.put, List.setIfInBounds_toArray, List.set_cons_zero, List.set_cons_succ]
        refine BigFrame.wpQuiet_want rfl (fun K hK => ?_)
        refine quiet_val (.agg #[.int .i64 px, .int .i64 py]) (fun w' hw' => by obtain ⟨⟨a0, a1, a2, a3⟩, ⟨b0, b1, b2, b3⟩, ⟨p0, p1⟩, ⟨m0, m1, m2, m3⟩, j0, j1, j2, j3⟩ := (HV.out _ hw').cells; go_simp) (hK _ ?_)
        clear hK K
        simp only [Act.put, List.setIfInBounds_toArray, List.set_cons_zero, List.set_cons_succ]
        refine BigFrame.wpQuiet_want rfl (fun K hK => ?_)
        refine quiet_call 23 #[.agg #[.int .i64 a.x0, .int .i64 a.y0, .int .i64 a.x1, .int .i64 a.y1], .agg #[.int .i64 px, .int .i64 py]] (.bool false) (fun w' _ => by go_simp) (fun w' hw' => Calls.out hw' (HHA.out _)) (hK _ ?_)
        clear hK K
        simp only [Act.put, List.setIfInBounds_toArray, List.set_cons_zero, List.set_cons_succ]
        refine BigFrame.wpQuiet_want rfl (fun K hK => ?_)
        refine quiet_val (.func (.func 21) #[] #[.pointer (some ⟨n + 2, 0, none⟩)]) (fun w' hw' => by go_simp) (hK _ ?_)
        clear hK K
        simp only [Act.put, List.setIfInBounds_toArray, List.set_cons_zero, List.set_cons_succ]
        refine BigFrame.wpQuiet_want rfl (fun K hK => ?_)
        refine quiet_val (.agg #[.int .i64 a.x0, .int .i64 a.y0, .int .i64 a.x1, .int .i64 a.y1]) (fun w' hw' => by obtain ⟨⟨a0, a1, a2, a3⟩, ⟨b0, b1, b2, b3⟩, ⟨p0, p1⟩, ⟨m0, m1, m2, m3⟩, j0, j1, j2, j3⟩ := (HV.out _ hw').cells; go_simp) (hK _ ?_)
        clear hK K
        simp only [Act.put, List.setIfInBounds_toArray, List.set_cons_zero, List.set_cons_succ]
        refine BigFrame.wpQuiet_want rfl (fun K hK => ?_)
        refine quiet_call 21 #[.agg #[.int .i64 a.x0, .int .i64 a.y0, .int .i64 a.x1, .int .i64 a.y1], .pointer (some ⟨n + 2, 0, none⟩)] (.bool false) (fun w' _ => by go_simp) (fun w' hw' => Calls.out hw' (HCA.out _ _ (HP.out _ hw'))) (hK _ ?_)
        clear hK K
        simp only [Act.put, List.setIfInBounds_toArray, List.set_cons_zero, List.set_cons_succ]
        refine BigFrame.wpQuiet_want rfl (fun K hK => ?_)
        refine quiet_val (.bool false) (fun w' hw' => by go_simp) (hK _ ?_)
        clear hK K
        simp only [Act.put, List.setIfInBounds_toArray, List.set_cons_zero, List.set_cons_succ]
        refine BigFrame.wpQuiet_want rfl (fun K hK => ?_)
        refine quiet_val (.bool false) (fun w' hw' => by go_simp) (hK _ ?_)
        clear hK K
        simp only [Act.put, List.setIfInBounds_toArray, List.set_cons_zero, List.set_cons_succ]
        refine BigFrame.wpQuiet_want rfl (fun K hK => ?_)
        refine quiet_val (.agg #[.int .i64 a.x0, .int .i64 a.y0, .int .i64 a.x1, .int .i64 a.y1]) (fun w' hw' => by obtain ⟨⟨a0, a1, a2, a3⟩, ⟨b0, b1, b2, b3⟩, ⟨p0, p1⟩, ⟨m0, m1, m2, m3⟩, j0, j1, j2, j3⟩ := (HV.out _ hw').cells; go_simp) (hK _ ?_)
        clear hK K
        simp only [Act.put, List.setIfInBounds_toArray, List.set_cons_zero, List.set_cons_succ]
        refine BigFrame.wpQuiet_want rfl (fun K hK => ?_)
        refine quiet_call 24 #[.agg #[.int .i64 a.x0, .int .i64 a.y0, .int .i64 a.x1, .int .i64 a.y1]] (.bool ea) (fun w' _ => by go_simp) (fun w' hw' => Calls.out hw' (HEA.out _)) (hK _ ?_)
        clear hK K
        simp only [Act.put, List.setIfInBounds_toArray, List.set_cons_zero, List.set_cons_succ]
        refine BigFrame.wpQuiet_want rfl (fun K hK => ?_)
        refine quiet_val (.func (.func 22) #[] #[]) (fun w' hw' => by go_simp) (hK _ ?_)
        clear hK K
        simp only [Act.put, List.setIfInBounds_toArray, List.set_cons_zero, List.set_cons_succ]
        refine BigFrame.wpQuiet_want rfl (fun K hK => ?_)
        refine quiet_val (.agg #[.int .i64 a.x0, .int .i64 a.y0, .int .i64 a.x1, .int .i64 a.y1]) (fun w' hw' => by obtain ⟨⟨a0, a1, a2, a3⟩, ⟨b0, b1, b2, b3⟩, ⟨p0, p1⟩, ⟨m0, m1, m2, m3⟩, j0, j1, j2, j3⟩ := (HV.out _ hw').cells; go_simp) (hK _ ?_)
        clear hK K
        simp only [Act.put, List.setIfInBounds_toArray, List.set_cons_zero, List.set_cons_succ]
        refine BigFrame.wpQuiet_want rfl (fun K hK => ?_)
        refine quiet_call 22 #[.agg #[.int .i64 a.x0, .int .i64 a.y0, .int .i64 a.x1, .int .i64 a.y1]] (.bool ea) (fun w' _ => by go_simp) (fun w' hw' => Calls.out hw' (HNA.out _)) (hK _ ?_)
        clear hK K
        simp only [Act.put, List.setIfInBounds_toArray, List.set_cons_zero, List.set_cons_succ]
        refine BigFrame.wpQuiet_want rfl (fun K hK => ?_)
        refine quiet_val (.bool false) (fun w' hw' => by go_simp) (hK _ ?_)
        clear hK K
        simp only [Act.put, List.setIfInBounds_toArray, List.set_cons_zero, List.set_cons_succ]
        refine BigFrame.wpQuiet_want rfl (fun K hK => ?_)
        refine quiet_val (.bool false) (fun w' hw' => by go_simp) (hK _ ?_)
        clear hK K
        simp only [Act.put, List.setIfInBounds_toArray, List.set_cons_zero, List.set_cons_succ]
        refine BigFrame.wpQuiet_want rfl (fun K hK => ?_)
        refine quiet_val (.bool false) (fun w' hw' => by go_simp) (hK _ ?_)
        clear hK K
        simp only [Act.put, List.setIfInBounds_toArray, List.set_cons_zero, List.set_cons_succ]
        refine BigFrame.wpQuiet_want rfl (fun K hK => ?_)
        refine quiet_val (.agg #[.int .i64 m.x0, .int .i64 m.y0, .int .i64 m.x1, .int .i64 m.y1]) (fun w' hw' => by obtain ⟨⟨a0, a1, a2, a3⟩, ⟨b0, b1, b2, b3⟩, ⟨p0, p1⟩, ⟨m0, m1, m2, m3⟩, j0, j1, j2, j3⟩ := (HV.out _ hw').cells; go_simp) (hK _ ?_)
        clear hK K
        simp only [Act.put, List.setIfInBounds_toArray, List.set_cons_zero, List.set_cons_succ]
        refine BigFrame.wpQuiet_want rfl (fun K hK => ?_)
        refine quiet_val (.agg #[.int .i64 px, .int .i64 py]) (fun w' hw' => by obtain ⟨⟨a0, a1, a2, a3⟩, ⟨b0, b1, b2, b3⟩, ⟨p0, p1⟩, ⟨m0, m1, m2, m3⟩, j0, j1, j2, j3⟩ := (HV.out _ hw').cells; go_simp) (hK _ ?_)
        clear hK K
        simp only [Act.put, List.setIfInBounds_toArray, List.set_cons_zero, List.set_cons_succ]
        refine BigFrame.wpQuiet_want rfl (fun K hK => ?_)
        refine quiet_call 23 #[.agg #[.int .i64 m.x0, .int .i64 m.y0, .int .i64 m.x1, .int .i64 m.y1], .agg #[.int .i64 px, .int .i64 py]] (.bool false) (fun w' _ => by go_simp) (fun w' hw' => Calls.out hw' (HHM.out _)) (hK _ ?_)
        clear hK K
        simp only [Act.put, List.setIfInBounds_toArray, List.set_cons_zero, List.set_cons_succ]
        refine BigFrame.wpQuiet_want rfl (fun K hK => ?_)
        refine quiet_val (.func (.func 21) #[] #[.pointer (some ⟨n + 2, 0, none⟩)]) (fun w' hw' => by go_simp) (hK _ ?_)
        clear hK K
        simp only [Act.put, List.setIfInBounds_toArray, List.set_cons_zero, List.set_cons_succ]
        refine BigFrame.wpQuiet_want rfl (fun K hK => ?_)
        refine quiet_val (.agg #[.int .i64 a.x0, .int .i64 a.y0, .int .i64 a.x1, .int .i64 a.y1]) (fun w' hw' => by obtain ⟨⟨a0, a1, a2, a3⟩, ⟨b0, b1, b2, b3⟩, ⟨p0, p1⟩, ⟨m0, m1, m2, m3⟩, j0, j1, j2, j3⟩ := (HV.out _ hw').cells; go_simp) (hK _ ?_)
        clear hK K
        simp only [Act.put, List.setIfInBounds_toArray, List.set_cons_zero, List.set_cons_succ]
        refine BigFrame.wpQuiet_want rfl (fun K hK => ?_)
        refine quiet_call 21 #[.agg #[.int .i64 a.x0, .int .i64 a.y0, .int .i64 a.x1, .int .i64 a.y1], .pointer (some ⟨n + 2, 0, none⟩)] (.bool false) (fun w' _ => by go_simp) (fun w' hw' => Calls.out hw' (HCA.out _ _ (HP.out _ hw'))) (hK _ ?_)
        clear hK K
        simp only [Act.put, List.setIfInBounds_toArray, List.set_cons_zero, List.set_cons_succ]
        refine BigFrame.wpQuiet_want rfl (fun K hK => ?_)
        refine quiet_val (.bool false) (fun w' hw' => by go_simp) (hK _ ?_)
        clear hK K
        simp only [Act.put, List.setIfInBounds_toArray, List.set_cons_zero, List.set_cons_succ]
        go_big_quiet_skip
        go_big_quiet_skip
        go_big_quiet_skip
        refine BigFrame.wpQuiet_want rfl (fun K hK => ?_)
        refine quiet_val (.bool false) (fun w' hw' => by go_simp) (hK _ ?_)
        clear hK K
        simp only [Act.put, List.setIfInBounds_toArray, List.set_cons_zero, List.set_cons_succ]
        refine BigFrame.wpQuiet_want rfl (fun K hK => ?_)
        refine quiet_val (.bool false) (fun w' hw' => by go_simp) (hK _ ?_)
        clear hK K
        simp only [Act.put, List.setIfInBounds_toArray, List.set_cons_zero, List.set_cons_succ]
        refine BigFrame.wpQuiet_want rfl (fun K hK => ?_)
        refine quiet_val (.bool false) (fun w' hw' => by go_simp) (hK _ ?_)
        clear hK K
        simp only [Act.put, List.setIfInBounds_toArray, List.set_cons_zero, List.set_cons_succ]
        refine BigFrame.wpQuiet_want rfl (fun K hK => ?_)
        refine quiet_val (.bool false) (fun w' hw' => by go_simp) (hK _ ?_)
        clear hK K
        simp only [Act.put, List.setIfInBounds_toArray, List.set_cons_zero, List.set_cons_succ]
        refine BigFrame.wpQuiet_want rfl (fun K hK => ?_)
        refine quiet_val (.agg #[.int .i64 m.x0, .int .i64 m.y0, .int .i64 m.x1, .int .i64 m.y1]) (fun w' hw' => by obtain ⟨⟨a0, a1, a2, a3⟩, ⟨b0, b1, b2, b3⟩, ⟨p0, p1⟩, ⟨m0, m1, m2, m3⟩, j0, j1, j2, j3⟩ := (HV.out _ hw').cells; go_simp) (hK _ ?_)
        clear hK K
        simp only [Act.put, List.setIfInBounds_toArray, List.set_cons_zero, List.set_cons_succ]
        refine BigFrame.wpQuiet_want rfl (fun K hK => ?_)
        refine quiet_val (.agg #[.int .i64 b.x0, .int .i64 b.y0, .int .i64 b.x1, .int .i64 b.y1]) (fun w' hw' => by obtain ⟨⟨a0, a1, a2, a3⟩, ⟨b0, b1, b2, b3⟩, ⟨p0, p1⟩, ⟨m0, m1, m2, m3⟩, j0, j1, j2, j3⟩ := (HV.out _ hw').cells; go_simp) (hK _ ?_)
        clear hK K
        simp only [Act.put, List.setIfInBounds_toArray, List.set_cons_zero, List.set_cons_succ]
        refine BigFrame.wpQuiet_want rfl (fun K hK => ?_)
        refine quiet_val (.agg #[.int .i64 a.x0, .int .i64 a.y0, .int .i64 a.x1, .int .i64 a.y1]) (fun w' hw' => by obtain ⟨⟨a0, a1, a2, a3⟩, ⟨b0, b1, b2, b3⟩, ⟨p0, p1⟩, ⟨m0, m1, m2, m3⟩, j0, j1, j2, j3⟩ := (HV.out _ hw').cells; go_simp) (hK _ ?_)
        clear hK K
        simp only [Act.put, List.setIfInBounds_toArray, List.set_cons_zero, List.set_cons_succ]
        refine BigFrame.wpQuiet_want rfl (fun K hK => ?_)
        refine quiet_call 19 #[.agg #[.int .i64 b.x0, .int .i64 b.y0, .int .i64 b.x1, .int .i64 b.y1], .agg #[.int .i64 a.x0, .int .i64 a.y0, .int .i64 a.x1, .int .i64 a.y1]] (.agg #[.int .i64 m.x0, .int .i64 m.y0, .int .i64 m.x1, .int .i64 m.y1]) (fun w' _ => by go_simp) (fun w' hw' => Calls.out hw' (HME2.out _)) (hK _ ?_)
        clear hK K
        simp only [Act.put, List.setIfInBounds_toArray, List.set_cons_zero, List.set_cons_succ]
        refine BigFrame.wpQuiet_want rfl (fun K hK => ?_)
        refine quiet_val (.bool false) (fun w' hw' => by go_simp) (hK _ ?_)
        clear hK K
        simp only [Act.put, List.setIfInBounds_toArray, List.set_cons_zero, List.set_cons_succ]
        refine BigFrame.wpQuiet_want rfl (fun K hK => ?_)
        refine quiet_val (.bool false) (fun w' hw' => by go_simp) (hK _ ?_)
        clear hK K
        simp only [Act.put, List.setIfInBounds_toArray, List.set_cons_zero, List.set_cons_succ]
        refine BigFrame.wpQuiet_want rfl (fun K hK => ?_)
        refine quiet_val (.bool false) (fun w' hw' => by go_simp) (hK _ ?_)
        clear hK K
        simp only [Act.put, List.setIfInBounds_toArray, List.set_cons_zero, List.set_cons_succ]
        refine BigFrame.wpQuiet_want rfl (fun K hK => ?_)
        refine quiet_val (.agg #[.int .i64 j.x0, .int .i64 j.y0, .int .i64 j.x1, .int .i64 j.y1]) (fun w' hw' => by obtain ⟨⟨a0, a1, a2, a3⟩, ⟨b0, b1, b2, b3⟩, ⟨p0, p1⟩, ⟨m0, m1, m2, m3⟩, j0, j1, j2, j3⟩ := (HV.out _ hw').cells; go_simp) (hK _ ?_)
        clear hK K
        simp only [Act.put, List.setIfInBounds_toArray, List.set_cons_zero, List.set_cons_succ]
        refine BigFrame.wpQuiet_want rfl (fun K hK => ?_)
        refine quiet_val (.agg #[.int .i64 b.x0, .int .i64 b.y0, .int .i64 b.x1, .int .i64 b.y1]) (fun w' hw' => by obtain ⟨⟨a0, a1, a2, a3⟩, ⟨b0, b1, b2, b3⟩, ⟨p0, p1⟩, ⟨m0, m1, m2, m3⟩, j0, j1, j2, j3⟩ := (HV.out _ hw').cells; go_simp) (hK _ ?_)
        clear hK K
        simp only [Act.put, List.setIfInBounds_toArray, List.set_cons_zero, List.set_cons_succ]
        refine BigFrame.wpQuiet_want rfl (fun K hK => ?_)
        refine quiet_val (.agg #[.int .i64 a.x0, .int .i64 a.y0, .int .i64 a.x1, .int .i64 a.y1]) (fun w' hw' => by obtain ⟨⟨a0, a1, a2, a3⟩, ⟨b0, b1, b2, b3⟩, ⟨p0, p1⟩, ⟨m0, m1, m2, m3⟩, j0, j1, j2, j3⟩ := (HV.out _ hw').cells; go_simp) (hK _ ?_)
        clear hK K
        simp only [Act.put, List.setIfInBounds_toArray, List.set_cons_zero, List.set_cons_succ]
        refine BigFrame.wpQuiet_want rfl (fun K hK => ?_)
        refine quiet_call 20 #[.agg #[.int .i64 b.x0, .int .i64 b.y0, .int .i64 b.x1, .int .i64 b.y1], .agg #[.int .i64 a.x0, .int .i64 a.y0, .int .i64 a.x1, .int .i64 a.y1]] (.agg #[.int .i64 j.x0, .int .i64 j.y0, .int .i64 j.x1, .int .i64 j.y1]) (fun w' _ => by go_simp) (fun w' hw' => Calls.out hw' (HJO2.out _)) (hK _ ?_)
        clear hK K
        simp only [Act.put, List.setIfInBounds_toArray, List.set_cons_zero, List.set_cons_succ]
        refine BigFrame.wpQuiet_want rfl (fun K hK => ?_)
        refine quiet_val (.bool false) (fun w' hw' => by go_simp) (hK _ ?_)
        clear hK K
        simp only [Act.put, List.setIfInBounds_toArray, List.set_cons_zero, List.set_cons_succ]
        refine BigFrame.wpQuiet_want rfl (fun K hK => ?_)
        refine quiet_val (.bool false) (fun w' hw' => by go_simp) (hK _ ?_)
        clear hK K
        simp only [Act.put, List.setIfInBounds_toArray, List.set_cons_zero, List.set_cons_succ]
        go_big_quiet_skip
        go_big_quiet_skip
        go_big_quiet_skip
        go_big_quiet_skip
        go_big_quiet_skip
        go_big_quiet_skip
        go_big_quiet_skip
        go_big_quiet_skip
        go_big_quiet_skip
        refine BigFrame.wpQuiet_want rfl (fun K hK => ?_)
        refine quiet_val (.bool false) (fun w' hw' => by go_simp) (hK _ ?_)
        clear hK K
        simp only [Act.put, List.setIfInBounds_toArray, List.set_cons_zero, List.set_cons_succ]
        refine BigFrame.wpQuiet_want rfl (fun K hK => ?_)
        refine quiet_val (.bool false) (fun w' hw' => by go_simp) (hK _ ?_)
        clear hK K
        simp only [Act.put, List.setIfInBounds_toArray, List.set_cons_zero, List.set_cons_succ]
        refine wpQuiet_nil ?_
        intro w' hw'
        have Hw : Hid (Five w' n g7 g8 a b px py m j ∧ Below n w w') := ⟨HV.out _ hw', below_n B1.out hw' (by omega)⟩
        clear hw'
        go_wp2_with fail
        go_meet
        exact ⟨rfl, Hw⟩
      · refine wp_region_quiet (C := Out w1) (by kernel_rfl) (by kernel_rfl) ⟨rfl, rfl, rfl, Nat.le_refl _, fun _ _ => rfl⟩ ?_
        refine BigFrame.wpQuiet_want rfl (fun K hK => ?_)
        refine quiet_val (.agg #[.int .i64 a.x0, .int .i64 a.y0, .int .i64 a.x1, .int .i64 a.y1]) (fun w' hw' => by obtain ⟨⟨a0, a1, a2, a3⟩, ⟨b0, b1, b2, b3⟩, ⟨p0, p1⟩, ⟨m0, m1, m2, m3⟩, j0, j1, j2, j3⟩ := (HV.out _ hw').cells; go_simp) (hK _ ?_)
        clear hK K
        simp only [Act.put, List.setIfInBounds_toArray, List.set_cons_zero, List.set_cons_succ]
        refine BigFrame.wpQuiet_want rfl (fun K hK => ?_)
        refine quiet_val (.agg #[.int .i64 px, .int .i64 py]) (fun w' hw' => by obtain ⟨⟨a0, a1, a2, a3⟩, ⟨b0, b1, b2, b3⟩, ⟨p0, p1⟩, ⟨m0, m1, m2, m3⟩, j0, j1, j2, j3⟩ := (HV.out _ hw').cells; go_simp) (hK _ ?_)
        clear hK K
        simp only [Act.put, List.setIfInBounds_toArray, List.set_cons_zero, List.set_cons_succ]
        refine BigFrame.wpQuiet_want rfl (fun K hK => ?_)
        refine quiet_call 23 #[.agg #[.int .i64 a.x0, .int .i64 a.y0, .int .i64 a.x1, .int .i64 a.y1], .agg #[.int .i64 px, .int .i64 py]] (.bool true) (fun w' _ => by go_simp) (fun w' hw' => Calls.out hw' (HHA.out _)) (hK _ ?_)
        clear hK K
        simp only [Act.put, List.setIfInBounds_toArray, List.set_cons_zero, List.set_cons_succ]
        refine BigFrame.wpQuiet_want rfl (fun K hK => ?_)
        refine quiet_val (.func (.func 21) #[] #[.pointer (some ⟨n + 2, 0, none⟩)]) (fun w' hw' => by go_simp) (hK _ ?_)
        clear hK K
        simp only [Act.put, List.setIfInBounds_toArray, List.set_cons_zero, List.set_cons_succ]
        refine BigFrame.wpQuiet_want rfl (fun K hK => ?_)
        refine quiet_val (.agg #[.int .i64 a.x0, .int .i64 a.y0, .int .i64 a.x1, .int .i64 a.y1]) (fun w' hw' => by obtain ⟨⟨a0, a1, a2, a3⟩, ⟨b0, b1, b2, b3⟩, ⟨p0, p1⟩, ⟨m0, m1, m2, m3⟩, j0, j1, j2, j3⟩ := (HV.out _ hw').cells; go_simp) (hK _ ?_)
        clear hK K
        simp only [Act.put, List.setIfInBounds_toArray, List.set_cons_zero, List.set_cons_succ]
        refine BigFrame.wpQuiet_want rfl (fun K hK => ?_)
        refine quiet_call 21 #[.agg #[.int .i64 a.x0, .int .i64 a.y0, .int .i64 a.x1, .int .i64 a.y1], .pointer (some ⟨n + 2, 0, none⟩)] (.bool true) (fun w' _ => by go_simp) (fun w' hw' => Calls.out hw' (HCA.out _ _ (HP.out _ hw'))) (hK _ ?_)
        clear hK K
        simp only [Act.put, List.setIfInBounds_toArray, List.set_cons_zero, List.set_cons_succ]
        refine BigFrame.wpQuiet_want rfl (fun K hK => ?_)
        refine quiet_val (.bool false) (fun w' hw' => by go_simp) (hK _ ?_)
        clear hK K
        simp only [Act.put, List.setIfInBounds_toArray, List.set_cons_zero, List.set_cons_succ]
        refine BigFrame.wpQuiet_want rfl (fun K hK => ?_)
        refine quiet_val (.bool false) (fun w' hw' => by go_simp) (hK _ ?_)
        clear hK K
        simp only [Act.put, List.setIfInBounds_toArray, List.set_cons_zero, List.set_cons_succ]
        refine BigFrame.wpQuiet_want rfl (fun K hK => ?_)
        refine quiet_val (.agg #[.int .i64 a.x0, .int .i64 a.y0, .int .i64 a.x1, .int .i64 a.y1]) (fun w' hw' => by obtain ⟨⟨a0, a1, a2, a3⟩, ⟨b0, b1, b2, b3⟩, ⟨p0, p1⟩, ⟨m0, m1, m2, m3⟩, j0, j1, j2, j3⟩ := (HV.out _ hw').cells; go_simp) (hK _ ?_)
        clear hK K
        simp only [Act.put, List.setIfInBounds_toArray, List.set_cons_zero, List.set_cons_succ]
        refine BigFrame.wpQuiet_want rfl (fun K hK => ?_)
        refine quiet_call 24 #[.agg #[.int .i64 a.x0, .int .i64 a.y0, .int .i64 a.x1, .int .i64 a.y1]] (.bool ea) (fun w' _ => by go_simp) (fun w' hw' => Calls.out hw' (HEA.out _)) (hK _ ?_)
        clear hK K
        simp only [Act.put, List.setIfInBounds_toArray, List.set_cons_zero, List.set_cons_succ]
        refine BigFrame.wpQuiet_want rfl (fun K hK => ?_)
        refine quiet_val (.func (.func 22) #[] #[]) (fun w' hw' => by go_simp) (hK _ ?_)
        clear hK K
        simp only [Act.put, List.setIfInBounds_toArray, List.set_cons_zero, List.set_cons_succ]
        refine BigFrame.wpQuiet_want rfl (fun K hK => ?_)
        refine quiet_val (.agg #[.int .i64 a.x0, .int .i64 a.y0, .int .i64 a.x1, .int .i64 a.y1]) (fun w' hw' => by obtain ⟨⟨a0, a1, a2, a3⟩, ⟨b0, b1, b2, b3⟩, ⟨p0, p1⟩, ⟨m0, m1, m2, m3⟩, j0, j1, j2, j3⟩ := (HV.out _ hw').cells; go_simp) (hK _ ?_)
        clear hK K
        simp only [Act.put, List.setIfInBounds_toArray, List.set_cons_zero, List.set_cons_succ]
        refine BigFrame.wpQuiet_want rfl (fun K hK => ?_)
        refine quiet_call 22 #[.agg #[.int .i64 a.x0, .int .i64 a.y0, .int .i64 a.x1, .int .i64 a.y1]] (.bool ea) (fun w' _ => by go_simp) (fun w' hw' => Calls.out hw' (HNA.out _)) (hK _ ?_)
        clear hK K
        simp only [Act.put, List.setIfInBounds_toArray, List.set_cons_zero, List.set_cons_succ]
        refine BigFrame.wpQuiet_want rfl (fun K hK => ?_)
        refine quiet_val (.bool false) (fun w' hw' => by go_simp) (hK _ ?_)
        clear hK K
        simp only [Act.put, List.setIfInBounds_toArray, List.set_cons_zero, List.set_cons_succ]
        refine BigFrame.wpQuiet_want rfl (fun K hK => ?_)
        refine quiet_val (.bool false) (fun w' hw' => by go_simp) (hK _ ?_)
        clear hK K
        simp only [Act.put, List.setIfInBounds_toArray, List.set_cons_zero, List.set_cons_succ]
        refine BigFrame.wpQuiet_want rfl (fun K hK => ?_)
        refine quiet_val (.bool false) (fun w' hw' => by go_simp) (hK _ ?_)
        clear hK K
        simp only [Act.put, List.setIfInBounds_toArray, List.set_cons_zero, List.set_cons_succ]
        refine BigFrame.wpQuiet_want rfl (fun K hK => ?_)
        refine quiet_val (.agg #[.int .i64 m.x0, .int .i64 m.y0, .int .i64 m.x1, .int .i64 m.y1]) (fun w' hw' => by obtain ⟨⟨a0, a1, a2, a3⟩, ⟨b0, b1, b2, b3⟩, ⟨p0, p1⟩, ⟨m0, m1, m2, m3⟩, j0, j1, j2, j3⟩ := (HV.out _ hw').cells; go_simp) (hK _ ?_)
        clear hK K
        simp only [Act.put, List.setIfInBounds_toArray, List.set_cons_zero, List.set_cons_succ]
        refine BigFrame.wpQuiet_want rfl (fun K hK => ?_)
        refine quiet_val (.agg #[.int .i64 px, .int .i64 py]) (fun w' hw' => by obtain ⟨⟨a0, a1, a2, a3⟩, ⟨b0, b1, b2, b3⟩, ⟨p0, p1⟩, ⟨m0, m1, m2, m3⟩, j0, j1, j2, j3⟩ := (HV.out _ hw').cells; go_simp) (hK _ ?_)
        clear hK K
        simp only [Act.put, List.setIfInBounds_toArray, List.set_cons_zero, List.set_cons_succ]
        refine BigFrame.wpQuiet_want rfl (fun K hK => ?_)
        refine quiet_call 23 #[.agg #[.int .i64 m.x0, .int .i64 m.y0, .int .i64 m.x1, .int .i64 m.y1], .agg #[.int .i64 px, .int .i64 py]] (.bool hb) (fun w' _ => by go_simp) (fun w' hw' => Calls.out hw' (HHM.out _)) (hK _ ?_)
        clear hK K
        simp only [Act.put, List.setIfInBounds_toArray, List.set_cons_zero, List.set_cons_succ]
        refine BigFrame.wpQuiet_want rfl (fun K hK => ?_)
        refine quiet_val (.func (.func 21) #[] #[.pointer (some ⟨n + 2, 0, none⟩)]) (fun w' hw' => by go_simp) (hK _ ?_)
        clear hK K
        simp only [Act.put, List.setIfInBounds_toArray, List.set_cons_zero, List.set_cons_succ]
        refine BigFrame.wpQuiet_want rfl (fun K hK => ?_)
        refine quiet_val (.agg #[.int .i64 a.x0, .int .i64 a.y0, .int .i64 a.x1, .int .i64 a.y1]) (fun w' hw' => by obtain ⟨⟨a0, a1, a2, a3⟩, ⟨b0, b1, b2, b3⟩, ⟨p0, p1⟩, ⟨m0, m1, m2, m3⟩, j0, j1, j2, j3⟩ := (HV.out _ hw').cells; go_simp) (hK _ ?_)
        clear hK K
        simp only [Act.put, List.setIfInBounds_toArray, List.set_cons_zero, List.set_cons_succ]
        refine BigFrame.wpQuiet_want rfl (fun K hK => ?_)
        refine quiet_call 21 #[.agg #[.int .i64 a.x0, .int .i64 a.y0, .int .i64 a.x1, .int .i64 a.y1], .pointer (some ⟨n + 2, 0, none⟩)] (.bool true) (fun w' _ => by go_simp) (fun w' hw' => Calls.out hw' (HCA.out _ _ (HP.out _ hw'))) (hK _ ?_)
        clear hK K
        simp only [Act.put, List.setIfInBounds_toArray, List.set_cons_zero, List.set_cons_succ]
        refine BigFrame.wpQuiet_want rfl (fun K hK => ?_)
        refine quiet_val (.bool true) (fun w' hw' => by go_simp) (hK _ ?_)
        clear hK K
        simp only [Act.put, List.setIfInBounds_toArray, List.set_cons_zero, List.set_cons_succ]
        refine BigFrame.wpQuiet_want rfl (fun K hK => ?_)
        refine quiet_val (.func (.func 21) #[] #[.pointer (some ⟨n + 2, 0, none⟩)]) (fun w' hw' => by go_simp) (hK _ ?_)
        clear hK K
        simp only [Act.put, List.setIfInBounds_toArray, List.set_cons_zero, List.set_cons_succ]
        refine BigFrame.wpQuiet_want rfl (fun K hK => ?_)
        refine quiet_val (.agg #[.int .i64 b.x0, .int .i64 b.y0, .int .i64 b.x1, .int .i64 b.y1]) (fun w' hw' => by obtain ⟨⟨a0, a1, a2, a3⟩, ⟨b0, b1, b2, b3⟩, ⟨p0, p1⟩, ⟨m0, m1, m2, m3⟩, j0, j1, j2, j3⟩ := (HV.out _ hw').cells; go_simp) (hK _ ?_)
        clear hK K
        simp only [Act.put, List.setIfInBounds_toArray, List.set_cons_zero, List.set_cons_succ]
        refine BigFrame.wpQuiet_want rfl (fun K hK => ?_)
        refine quiet_call 21 #[.agg #[.int .i64 b.x0, .int .i64 b.y0, .int .i64 b.x1, .int .i64 b.y1], .pointer (some ⟨n + 2, 0, none⟩)] (.bool hb) (fun w' _ => by go_simp) (fun w' hw' => Calls.out hw' (HCB.out _ _ (HP.out _ hw'))) (hK _ ?_)
        clear hK K
        simp only [Act.put, List.setIfInBounds_toArray, List.set_cons_zero, List.set_cons_succ]
        refine BigFrame.wpQuiet_want rfl (fun K hK => ?_)
        refine quiet_val (.bool hb) (fun w' hw' => by go_simp) (hK _ ?_)
        clear hK K
        simp only [Act.put, List.setIfInBounds_toArray, List.set_cons_zero, List.set_cons_succ]
        refine BigFrame.wpQuiet_want rfl (fun K hK => ?_)
        refine quiet_val (.bool false) (fun w' hw' => by go_simp) (hK _ ?_)
        clear hK K
        simp only [Act.put, List.setIfInBounds_toArray, List.set_cons_zero, List.set_cons_succ]
        refine BigFrame.wpQuiet_want rfl (fun K hK => ?_)
        refine quiet_val (.bool false) (fun w' hw' => by go_simp) (hK _ ?_)
        clear hK K
        simp only [Act.put, List.setIfInBounds_toArray, List.set_cons_zero, List.set_cons_succ]
        refine BigFrame.wpQuiet_want rfl (fun K hK => ?_)
        refine quiet_val (.bool false) (fun w' hw' => by go_simp) (hK _ ?_)
        clear hK K
        simp only [Act.put, List.setIfInBounds_toArray, List.set_cons_zero, List.set_cons_succ]
        refine BigFrame.wpQuiet_want rfl (fun K hK => ?_)
        refine quiet_val (.agg #[.int .i64 m.x0, .int .i64 m.y0, .int .i64 m.x1, .int .i64 m.y1]) (fun w' hw' => by obtain ⟨⟨a0, a1, a2, a3⟩, ⟨b0, b1, b2, b3⟩, ⟨p0, p1⟩, ⟨m0, m1, m2, m3⟩, j0, j1, j2, j3⟩ := (HV.out _ hw').cells; go_simp) (hK _ ?_)
        clear hK K
        simp only [Act.put, List.setIfInBounds_toArray, List.set_cons_zero, List.set_cons_succ]
        refine BigFrame.wpQuiet_want rfl (fun K hK => ?_)
        refine quiet_val (.agg #[.int .i64 b.x0, .int .i64 b.y0, .int .i64 b.x1, .int .i64 b.y1]) (fun w' hw' => by obtain ⟨⟨a0, a1, a2, a3⟩, ⟨b0, b1, b2, b3⟩, ⟨p0, p1⟩, ⟨m0, m1, m2, m3⟩, j0, j1, j2, j3⟩ := (HV.out _ hw').cells; go_simp) (hK _ ?_)
        clear hK K
        simp only [Act.put, List.setIfInBounds_toArray, List.set_cons_zero, List.set_cons_succ]
        refine BigFrame.wpQuiet_want rfl (fun K hK => ?_)
        refine quiet_val (.agg #[.int .i64 a.x0, .int .i64 a.y0, .int .i64 a.x1, .int .i64 a.y1]) (fun w' hw' => by obtain ⟨⟨a0, a1, a2, a3⟩, ⟨b0, b1, b2, b3⟩, ⟨p0, p1⟩, ⟨m0, m1, m2, m3⟩, j0, j1, j2, j3⟩ := (HV.out _ hw').cells; go_simp) (hK _ ?_)
        clear hK K
        simp only [Act.put, List.setIfInBounds_toArray, List.set_cons_zero, List.set_cons_succ]
        refine BigFrame.wpQuiet_want rfl (fun K hK => ?_)
        refine quiet_call 19 #[.agg #[.int .i64 b.x0, .int .i64 b.y0, .int .i64 b.x1, .int .i64 b.y1], .agg #[.int .i64 a.x0, .int .i64 a.y0, .int .i64 a.x1, .int .i64 a.y1]] (.agg #[.int .i64 m.x0, .int .i64 m.y0, .int .i64 m.x1, .int .i64 m.y1]) (fun w' _ => by go_simp) (fun w' hw' => Calls.out hw' (HME2.out _)) (hK _ ?_)
        clear hK K
        simp only [Act.put, List.setIfInBounds_toArray, List.set_cons_zero, List.set_cons_succ]
        refine BigFrame.wpQuiet_want rfl (fun K hK => ?_)
        refine quiet_val (.bool false) (fun w' hw' => by go_simp) (hK _ ?_)
        clear hK K
        simp only [Act.put, List.setIfInBounds_toArray, List.set_cons_zero, List.set_cons_succ]
        refine BigFrame.wpQuiet_want rfl (fun K hK => ?_)
        refine quiet_val (.bool false) (fun w' hw' => by go_simp) (hK _ ?_)
        clear hK K
        simp only [Act.put, List.setIfInBounds_toArray, List.set_cons_zero, List.set_cons_succ]
        refine BigFrame.wpQuiet_want rfl (fun K hK => ?_)
        refine quiet_val (.bool false) (fun w' hw' => by go_simp) (hK _ ?_)
        clear hK K
        simp only [Act.put, List.setIfInBounds_toArray, List.set_cons_zero, List.set_cons_succ]
        refine BigFrame.wpQuiet_want rfl (fun K hK => ?_)
        refine quiet_val (.agg #[.int .i64 j.x0, .int .i64 j.y0, .int .i64 j.x1, .int .i64 j.y1]) (fun w' hw' => by obtain ⟨⟨a0, a1, a2, a3⟩, ⟨b0, b1, b2, b3⟩, ⟨p0, p1⟩, ⟨m0, m1, m2, m3⟩, j0, j1, j2, j3⟩ := (HV.out _ hw').cells; go_simp) (hK _ ?_)
        clear hK K
        simp only [Act.put, List.setIfInBounds_toArray, List.set_cons_zero, List.set_cons_succ]
        refine BigFrame.wpQuiet_want rfl (fun K hK => ?_)
        refine quiet_val (.agg #[.int .i64 b.x0, .int .i64 b.y0, .int .i64 b.x1, .int .i64 b.y1]) (fun w' hw' => by obtain ⟨⟨a0, a1, a2, a3⟩, ⟨b0, b1, b2, b3⟩, ⟨p0, p1⟩, ⟨m0, m1, m2, m3⟩, j0, j1, j2, j3⟩ := (HV.out _ hw').cells; go_simp) (hK _ ?_)
        clear hK K
        simp only [Act.put, List.setIfInBounds_toArray, List.set_cons_zero, List.set_cons_succ]
        refine BigFrame.wpQuiet_want rfl (fun K hK => ?_)
        refine quiet_val (.agg #[.int .i64 a.x0, .int .i64 a.y0, .int .i64 a.x1, .int .i64 a.y1]) (fun w' hw' => by obtain ⟨⟨a0, a1, a2, a3⟩, ⟨b0, b1, b2, b3⟩, ⟨p0, p1⟩, ⟨m0, m1, m2, m3⟩, j0, j1, j2, j3⟩ := (HV.out _ hw').cells; go_simp) (hK _ ?_)
        clear hK K
        simp only [Act.put, List.setIfInBounds_toArray, List.set_cons_zero, List.set_cons_succ]
        refine BigFrame.wpQuiet_want rfl (fun K hK => ?_)
        refine quiet_call 20 #[.agg #[.int .i64 b.x0, .int .i64 b.y0, .int .i64 b.x1, .int .i64 b.y1], .agg #[.int .i64 a.x0, .int .i64 a.y0, .int .i64 a.x1, .int .i64 a.y1]] (.agg #[.int .i64 j.x0, .int .i64 j.y0, .int .i64 j.x1, .int .i64 j.y1]) (fun w' _ => by go_simp) (fun w' hw' => Calls.out hw' (HJO2.out _)) (hK _ ?_)
        clear hK K
        simp only [Act.put, List.setIfInBounds_toArray, List.set_cons_zero, List.set_cons_succ]
        refine BigFrame.wpQuiet_want rfl (fun K hK => ?_)
        refine quiet_val (.bool false) (fun w' hw' => by go_simp) (hK _ ?_)
        clear hK K
        simp only [Act.put, List.setIfInBounds_toArray, List.set_cons_zero, List.set_cons_succ]
        refine BigFrame.wpQuiet_want rfl (fun K hK => ?_)
        refine quiet_val (.bool false) (fun w' hw' => by go_simp) (hK _ ?_)
        clear hK K
        simp only [Act.put, List.setIfInBounds_toArray, List.set_cons_zero, List.set_cons_succ]
        go_big_quiet_skip
        go_big_quiet_skip
        go_big_quiet_skip
        go_big_quiet_skip
        go_big_quiet_skip
        go_big_quiet_skip
        go_big_quiet_skip
        go_big_quiet_skip
        go_big_quiet_skip
        refine BigFrame.wpQuiet_want rfl (fun K hK => ?_)
        refine quiet_val (.bool false) (fun w' hw' => by go_simp) (hK _ ?_)
        clear hK K
        simp only [Act.put, List.setIfInBounds_toArray, List.set_cons_zero, List.set_cons_succ]
        refine BigFrame.wpQuiet_want rfl (fun K hK => ?_)
        refine quiet_val (.bool false) (fun w' hw' => by go_simp) (hK _ ?_)
        clear hK K
        simp only [Act.put, List.setIfInBounds_toArray, List.set_cons_zero, List.set_cons_succ]
        refine wpQuiet_nil ?_
        intro w' hw'
        have Hw : Hid (Five w' n g7 g8 a b px py m j ∧ Below n w w') := ⟨HV.out _ hw', below_n B1.out hw' (by omega)⟩
        clear hw'
        go_wp2_with fail
        go_meet
        exact ⟨rfl, Hw⟩
    case rest =>
      obtain ⟨rfl, hc⟩ := hcut
      have V2 := Lib.hid hc.out.1
      have B2 := Lib.hid hc.out.2
      have lt2 := V2.out.1.lt
      clear hc V1 B1 lt1
      obtain ⟨⟨a0, a1, a2, a3⟩, _⟩ := V2.out.cells
      go_upto_region 6 with fail
      go_cut [95] from 72 to 95 (fun c wx => c = .bool false ∧ Hid (Five wx n g7 g8 a b px py m j ∧ Below n w wx))
      case first =>
        cases ha
        · cases hb
          · skip
            cases em
            · skip
              go_wp2_with fail
              refine (HCA.out _ _ V2.out.2.2.1).mono ?_
              rintro e w3 ⟨rfl, hb3⟩
              have V3 : Hid (Five w3 n g7 g8 a b px py m j) := V2.out.grow hb3
              have B3 : Hid (Below n w w3) := below_n B2.out hb3 (by have := V2.out.1.lt; omega)
              clear hb3 lt2
              clear a0 a1 a2 a3
              obtain ⟨_, ⟨b0, b1, b2, b3⟩, _, _, _⟩ := V3.out.cells
              have lt3 := V3.out.1.lt
              go_wp2_with fail
              refine (HCB.out _ _ V3.out.2.2.1).mono ?_
              rintro e w4 ⟨rfl, hb4⟩
              have V4 : Hid (Five w4 n g7 g8 a b px py m j) := V3.out.grow hb4
              have B4 : Hid (Below n w w4) := below_n B3.out hb4 (by have := V3.out.1.lt; omega)
              clear hb4 lt3
              clear b0 b1 b2 b3
              obtain ⟨_, _, _, ⟨m0, m1, m2, m3⟩, _⟩ := V4.out.cells
              have lt4 := V4.out.1.lt
              go_wp2_with fail
              refine (HNM.out _).mono ?_
              rintro e w5 ⟨rfl, hb5⟩
              have V5 : Hid (Five w5 n g7 g8 a b px py m j) := V4.out.grow hb5
              have B5 : Hid (Below n w w5) := below_n B4.out hb5 (by have := V4.out.1.lt; omega)
              clear hb5 lt4
              clear m0 m1 m2 m3
              have lt5 := V5.out.1.lt
              go_wp2_with fail
              go_meet
              exact ⟨rfl, V5.out, B5.out⟩
            · have HZ : Hid (((m.x0 = 0 ↔ True) ∧ (m.y0 = 0 ↔ True) ∧ (m.x1 = 0 ↔ True) ∧ (m.y1 = 0 ↔ True)) ∧ (m.x0 == 0) = true ∧ (m.y0 == 0) = true ∧ (m.x1 == 0) = true ∧ (m.y1 == 0) = true) := by have hmz := HMN.out rfl; rw [hmz]; exact ⟨⟨by simp, by simp, by simp, by simp⟩, rfl, rfl, rfl, rfl⟩
              go_wp2_with fail
              refine (HCA.out _ _ V2.out.2.2.1).mono ?_
              rintro e w3 ⟨rfl, hb3⟩
              have V3 : Hid (Five w3 n g7 g8 a b px py m j) := V2.out.grow hb3
              have B3 : Hid (Below n w w3) := below_n B2.out hb3 (by have := V2.out.1.lt; omega)
              clear hb3 lt2
              clear a0 a1 a2 a3
              obtain ⟨_, ⟨b0, b1, b2, b3⟩, _, _, _⟩ := V3.out.cells
              have lt3 := V3.out.1.lt
              go_wp2_with fail
              refine (HCB.out _ _ V3.out.2.2.1).mono ?_
              rintro e w4 ⟨rfl, hb4⟩
              have V4 : Hid (Five w4 n g7 g8 a b px py m j) := V3.out.grow hb4
              have B4 : Hid (Below n w w4) := below_n B3.out hb4 (by have := V3.out.1.lt; omega)
              clear hb4 lt3
              clear b0 b1 b2 b3
              obtain ⟨_, _, _, ⟨m0, m1, m2, m3⟩, _⟩ := V4.out.cells
              have lt4 := V4.out.1.lt
              go_wp2_with fail
              refine (HNM.out _).mono ?_
              rintro e w5 ⟨rfl, hb5⟩
              have V5 : Hid (Five w5 n g7 g8 a b px py m j) := V4.out.grow hb5
              have B5 : Hid (Below n w w5) := below_n B4.out hb5 (by have := V4.out.1.lt; omega)
              clear hb5 lt4
              clear m0 m1 m2 m3
              obtain ⟨_, _, _, ⟨m0, m1, m2, m3⟩, _⟩ := V5.out.cells
              have lt5 := V5.out.1.lt
              obtain ⟨⟨z0, z1, z2, z3⟩, y0, y1, y2, y3⟩ := HZ.out
              go_wp2_with fail
              go_meet
              exact ⟨rfl, V5.out, B5.out⟩
          · skip
            obtain rfl : hj = true := HJH.out (.inr rfl)
            cases em
            · skip
              go_wp2_with fail
              refine (HCA.out _ _ V2.out.2.2.1).mono ?_
              rintro e w3 ⟨rfl, hb3⟩
              have V3 : Hid (Five w3 n g7 g8 a b px py m j) := V2.out.grow hb3
              have B3 : Hid (Below n w w3) := below_n B2.out hb3 (by have := V2.out.1.lt; omega)
              clear hb3 lt2
              clear a0 a1 a2 a3
              obtain ⟨_, ⟨b0, b1, b2, b3⟩, _, _, _⟩ := V3.out.cells
              have lt3 := V3.out.1.lt
              go_wp2_with fail
              refine (HCB.out _ _ V3.out.2.2.1).mono ?_
              rintro e w4 ⟨rfl, hb4⟩
              have V4 : Hid (Five w4 n g7 g8 a b px py m j) := V3.out.grow hb4
              have B4 : Hid (Below n w w4) := below_n B3.out hb4 (by have := V3.out.1.lt; omega)
              clear hb4 lt3
              clear b0 b1 b2 b3
              obtain ⟨_, _, ⟨p0, p1⟩, _, j0, j1, j2, j3⟩ := V4.out.cells
              have lt4 := V4.out.1.lt
              go_wp2_with fail
              refine (HHJ.out _).mono ?_
              rintro e w5 ⟨rfl, hb5⟩
              have V5 : Hid (Five w5 n g7 g8 a b px py m j) := V4.out.grow hb5
              have B5 : Hid (Below n w w5) := below_n B4.out hb5 (by have := V4.out.1.lt; omega)
              clear hb5 lt4
              clear p0 p1 j0 j1 j2 j3
              obtain ⟨_, _, _, ⟨m0, m1, m2, m3⟩, _⟩ := V5.out.cells
              have lt5 := V5.out.1.lt
              go_wp2_with fail
              refine (HNM.out _).mono ?_
              rintro e w6 ⟨rfl, hb6⟩
              have V6 : Hid (Five w6 n g7 g8 a b px py m j) := V5.out.grow hb6
              have B6 : Hid (Below n w w6) := below_n B5.out hb6 (by have := V5.out.1.lt; omega)
              clear hb6 lt5
              clear m0 m1 m2 m3
              have lt6 := V6.out.1.lt
              go_wp2_with fail
              go_meet
              exact ⟨rfl, V6.out, B6.out⟩
            · have HZ : Hid (((m.x0 = 0 ↔ True) ∧ (m.y0 = 0 ↔ True) ∧ (m.x1 = 0 ↔ True) ∧ (m.y1 = 0 ↔ True)) ∧ (m.x0 == 0) = true ∧ (m.y0 == 0) = true ∧ (m.x1 == 0) = true ∧ (m.y1 == 0) = true) := by have hmz := HMN.out rfl; rw [hmz]; exact ⟨⟨by simp, by simp, by simp, by simp⟩, rfl, rfl, rfl, rfl⟩
              go_wp2_with fail
              refine (HCA.out _ _ V2.out.2.2.1).mono ?_
              rintro e w3 ⟨rfl, hb3⟩
              have V3 : Hid (Five w3 n g7 g8 a b px py m j) := V2.out.grow hb3
              have B3 : Hid (Below n w w3) := below_n B2.out hb3 (by have := V2.out.1.lt; omega)
              clear hb3 lt2
              clear a0 a1 a2 a3
              obtain ⟨_, ⟨b0, b1, b2, b3⟩, _, _, _⟩ := V3.out.cells
              have lt3 := V3.out.1.lt
              go_wp2_with fail
              refine (HCB.out _ _ V3.out.2.2.1).mono ?_
              rintro e w4 ⟨rfl, hb4⟩
              have V4 : Hid (Five w4 n g7 g8 a b px py m j) := V3.out.grow hb4
              have B4 : Hid (Below n w w4) := below_n B3.out hb4 (by have := V3.out.1.lt; omega)
              clear hb4 lt3
              clear b0 b1 b2 b3
              obtain ⟨_, _, ⟨p0, p1⟩, _, j0, j1, j2, j3⟩ := V4.out.cells
              have lt4 := V4.out.1.lt
              go_wp2_with fail
              refine (HHJ.out _).mono ?_
              rintro e w5 ⟨rfl, hb5⟩
              have V5 : Hid (Five w5 n g7 g8 a b px py m j) := V4.out.grow hb5
              have B5 : Hid (Below n w w5) := below_n B4.out hb5 (by have := V4.out.1.lt; omega)
              clear hb5 lt4
              clear p0 p1 j0 j1 j2 j3
              obtain ⟨_, _, _, ⟨m0, m1, m2, m3⟩, _⟩ := V5.out.cells
              have lt5 := V5.out.1.lt
              go_wp2_with fail
              refine (HNM.out _).mono ?_
              rintro e w6 ⟨rfl, hb6⟩
              have V6 : Hid (Five w6 n g7 g8 a b px py m j) := V5.out.grow hb6
              have B6 : Hid (Below n w w6) := below_n B5.out hb6 (by have := V5.out.1.lt; omega)
              clear hb6 lt5
              clear m0 m1 m2 m3
              obtain ⟨_, _, _, ⟨m0, m1, m2, m3⟩, _⟩ := V6.out.cells
              have lt6 := V6.out.1.lt
              obtain ⟨⟨z0, z1, z2, z3⟩, y0, y1, y2, y3⟩ := HZ.out
              go_wp2_with fail
              go_meet
              exact ⟨rfl, V6.out, B6.out⟩
        · skip
          obtain rfl : hj = true := HJH.out (.inl rfl)
          cases em
          · skip
            go_wp2_with fail
            refine (HCA.out _ _ V2.out.2.2.1).mono ?_
            rintro e w3 ⟨rfl, hb3⟩
            have V3 : Hid (Five w3 n g7 g8 a b px py m j) := V2.out.grow hb3
            have B3 : Hid (Below n w w3) := below_n B2.out hb3 (by have := V2.out.1.lt; omega)
            clear hb3 lt2
            clear a0 a1 a2 a3
            obtain ⟨_, _, ⟨p0, p1⟩, _, j0, j1, j2, j3⟩ := V3.out.cells
            have lt3 := V3.out.1.lt
            go_wp2_with fail
            refine (HHJ.out _).mono ?_
            rintro e w4 ⟨rfl, hb4⟩
            have V4 : Hid (Five w4 n g7 g8 a b px py m j) := V3.out.grow hb4
            have B4 : Hid (Below n w w4) := below_n B3.out hb4 (by have := V3.out.1.lt; omega)
            clear hb4 lt3
            clear p0 p1 j0 j1 j2 j3
            obtain ⟨_, _, _, ⟨m0, m1, m2, m3⟩, _⟩ := V4.out.cells
            have lt4 := V4.out.1.lt
            go_wp2_with fail
            refine (HNM.out _).mono ?_
            rintro e w5 ⟨rfl, hb5⟩
            have V5 : Hid (Five w5 n g7 g8 a b px py m j) := V4.out.grow hb5
            have B5 : Hid (Below n w w5) := below_n B4.out hb5 (by have := V4.out.1.lt; omega)
            clear hb5 lt4
            clear m0 m1 m2 m3
            have lt5 := V5.out.1.lt
            go_wp2_with fail
            go_meet
            exact ⟨rfl, V5.out, B5.out⟩
          · have HZ : Hid (((m.x0 = 0 ↔ True) ∧ (m.y0 = 0 ↔ True) ∧ (m.x1 = 0 ↔ True) ∧ (m.y1 = 0 ↔ True)) ∧ (m.x0 == 0) = true ∧ (m.y0 == 0) = true ∧ (m.x1 == 0) = true ∧ (m.y1 == 0) = true) := by have hmz := HMN.out rfl; rw [hmz]; exact ⟨⟨by simp, by simp, by simp, by simp⟩, rfl, rfl, rfl, rfl⟩
            go_wp2_with fail
            refine (HCA.out _ _ V2.out.2.2.1).mono ?_
            rintro e w3 ⟨rfl, hb3⟩
            have V3 : Hid (Five w3 n g7 g8 a b px py m j) := V2.out.grow hb3
            have B3 : Hid (Below n w w3) := below_n B2.out hb3 (by have := V2.out.1.lt; omega)
            clear hb3 lt2
            clear a0 a1 a2 a3
            obtain ⟨_, _, ⟨p0, p1⟩, _, j0, j1, j2, j3⟩ := V3.out.cells
            have lt3 := V3.out.1.lt
            go_wp2_with fail
            refine (HHJ.out _).mono ?_
            rintro e w4 ⟨rfl, hb4⟩
            have V4 : Hid (Five w4 n g7 g8 a b px py m j) := V3.out.grow hb4
            have B4 : Hid (Below n w w4) := below_n B3.out hb4 (by have := V3.out.1.lt; omega)
            clear hb4 lt3
            clear p0 p1 j0 j1 j2 j3
            obtain ⟨_, _, _, ⟨m0, m1, m2, m3⟩, _⟩ := V4.out.cells
            have lt4 := V4.out.1.lt
            go_wp2_with fail
            refine (HNM.out _).mono ?_
            rintro e w5 ⟨rfl, hb5⟩
            have V5 : Hid (Five w5 n g7 g8 a b px py m j) := V4.out.grow hb5
            have B5 : Hid (Below n w w5) := below_n B4.out hb5 (by have := V4.out.1.lt; omega)
            clear hb5 lt4
            clear m0 m1 m2 m3
            obtain ⟨_, _, _, ⟨m0, m1, m2, m3⟩, _⟩ := V5.out.cells
            have lt5 := V5.out.1.lt
            obtain ⟨⟨z0, z1, z2, z3⟩, y0, y1, y2, y3⟩ := HZ.out
            go_wp2_with fail
            go_meet
            exact ⟨rfl, V5.out, B5.out⟩
      case rest =>
        obtain ⟨rfl, hc⟩ := hcut
        have V3 := Lib.hid hc.out.1
        have B3 := Lib.hid hc.out.2
        have lt3 := V3.out.1.lt
        clear hc V2 B2 lt2
        clear a0 a1 a2 a3
        obtain ⟨⟨a0, a1, a2, a3⟩, _⟩ := V3.out.cells
        cases ea
        · cases eb
          · have HE : Hid (min a.x0 b.x0 = j.x0 ∧ min a.y0 b.y0 = j.y0 ∧ max a.x1 b.x1 = j.x1 ∧ max a.y1 b.y1 = j.y1) := by have h : j = join0 a b := HJD.out; rw [h]; exact ⟨rfl, rfl, rfl, rfl⟩
            go_wp2_with fail
            refine (HNA.out _).mono ?_
            rintro e w4 ⟨rfl, hb4⟩
            have V4 : Hid (Five w4 n g7 g8 a b px py m j) := V3.out.grow hb4
            have B4 : Hid (Below n w w4) := below_n B3.out hb4 (by have := V3.out.1.lt; omega)
            clear hb4 lt3
            clear a0 a1 a2 a3
            obtain ⟨⟨a0, a1, a2, a3⟩, _, _, _, _⟩ := V4.out.cells
            have lt4 := V4.out.1.lt
            go_wp2_with fail
            refine (HNA.out _).mono ?_
            rintro e w5 ⟨rfl, hb5⟩
            have V5 : Hid (Five w5 n g7 g8 a b px py m j) := V4.out.grow hb5
            have B5 : Hid (Below n w w5) := below_n B4.out hb5 (by have := V4.out.1.lt; omega)
            clear hb5 lt4
            clear a0 a1 a2 a3
            obtain ⟨_, ⟨b0, b1, b2, b3⟩, _, _, _⟩ := V5.out.cells
            have lt5 := V5.out.1.lt
            go_wp2_with fail
            refine (HNB.out _).mono ?_
            rintro e w6 ⟨rfl, hb6⟩
            have V6 : Hid (Five w6 n g7 g8 a b px py m j) := V5.out.grow hb6
            have B6 : Hid (Below n w w6) := below_n B5.out hb6 (by have := V5.out.1.lt; omega)
            clear hb6 lt5
            clear b0 b1 b2 b3
            obtain ⟨⟨a0, a1, a2, a3⟩, ⟨b0, b1, b2, b3⟩, _, _, j0, j1, j2, j3⟩ := V6.out.cells
            have lt6 := V6.out.1.lt
            obtain ⟨E1, E2, E3, E4⟩ := HE.out
            go_wp2_with fail
            refine (HAW.out _).mono ?_
            rintro e w7 ⟨rfl, hb7⟩
            have V7 : Hid (Five w7 n g7 g8 a b px py m j) := V6.out.grow hb7
            have B7 : Hid (Below n w w7) := below_n B6.out hb7 (by have := V6.out.1.lt; omega)
            clear hb7 lt6
            clear a0 a1 a2 a3 b0 b1 b2 b3 j0 j1 j2 j3
            have lt7 := V7.out.1.lt
            go_wp2_with fail
            go_ret
            exact ⟨rfl, by rw [Hn.out]; exact B7.out⟩
          · have HE : Hid (j.x0 = a.x0 ∧ j.y0 = a.y0 ∧ j.x1 = a.x1 ∧ j.y1 = a.y1) := by have h : j = a := HJD.out; rw [h]; exact ⟨rfl, rfl, rfl, rfl⟩
            go_wp2_with fail
            refine (HNA.out _).mono ?_
            rintro e w4 ⟨rfl, hb4⟩
            have V4 : Hid (Five w4 n g7 g8 a b px py m j) := V3.out.grow hb4
            have B4 : Hid (Below n w w4) := below_n B3.out hb4 (by have := V3.out.1.lt; omega)
            clear hb4 lt3
            clear a0 a1 a2 a3
            obtain ⟨⟨a0, a1, a2, a3⟩, _, _, _, _⟩ := V4.out.cells
            have lt4 := V4.out.1.lt
            go_wp2_with fail
            refine (HNA.out _).mono ?_
            rintro e w5 ⟨rfl, hb5⟩
            have V5 : Hid (Five w5 n g7 g8 a b px py m j) := V4.out.grow hb5
            have B5 : Hid (Below n w w5) := below_n B4.out hb5 (by have := V4.out.1.lt; omega)
            clear hb5 lt4
            clear a0 a1 a2 a3
            obtain ⟨_, ⟨b0, b1, b2, b3⟩, _, _, _⟩ := V5.out.cells
            have lt5 := V5.out.1.lt
            go_wp2_with fail
            refine (HNB.out _).mono ?_
            rintro e w6 ⟨rfl, hb6⟩
            have V6 : Hid (Five w6 n g7 g8 a b px py m j) := V5.out.grow hb6
            have B6 : Hid (Below n w w6) := below_n B5.out hb6 (by have := V5.out.1.lt; omega)
            clear hb6 lt5
            clear b0 b1 b2 b3
            obtain ⟨⟨a0, a1, a2, a3⟩, _, _, _, j0, j1, j2, j3⟩ := V6.out.cells
            have lt6 := V6.out.1.lt
            obtain ⟨E1, E2, E3, E4⟩ := HE.out
            go_wp2_with fail
            refine (HAW.out _).mono ?_
            rintro e w7 ⟨rfl, hb7⟩
            have V7 : Hid (Five w7 n g7 g8 a b px py m j) := V6.out.grow hb7
            have B7 : Hid (Below n w w7) := below_n B6.out hb7 (by have := V6.out.1.lt; omega)
            clear hb7 lt6
            clear a0 a1 a2 a3 j0 j1 j2 j3
            have lt7 := V7.out.1.lt
            go_wp2_with fail
            go_ret
            exact ⟨rfl, by rw [Hn.out]; exact B7.out⟩
        · cases eb
          · have HE : Hid (j.x0 = b.x0 ∧ j.y0 = b.y0 ∧ j.x1 = b.x1 ∧ j.y1 = b.y1) := by have h : j = b := HJD.out; rw [h]; exact ⟨rfl, rfl, rfl, rfl⟩
            go_wp2_with fail
            refine (HNA.out _).mono ?_
            rintro e w4 ⟨rfl, hb4⟩
            have V4 : Hid (Five w4 n g7 g8 a b px py m j) := V3.out.grow hb4
            have B4 : Hid (Below n w w4) := below_n B3.out hb4 (by have := V3.out.1.lt; omega)
            clear hb4 lt3
            clear a0 a1 a2 a3
            obtain ⟨_, ⟨b0, b1, b2, b3⟩, _, _, _⟩ := V4.out.cells
            have lt4 := V4.out.1.lt
            go_wp2_with fail
            refine (HNB.out _).mono ?_
            rintro e w5 ⟨rfl, hb5⟩
            have V5 : Hid (Five w5 n g7 g8 a b px py m j) := V4.out.grow hb5
            have B5 : Hid (Below n w w5) := below_n B4.out hb5 (by have := V4.out.1.lt; omega)
            clear hb5 lt4
            clear b0 b1 b2 b3
            obtain ⟨⟨a0, a1, a2, a3⟩, _, _, _, _⟩ := V5.out.cells
            have lt5 := V5.out.1.lt
            go_wp2_with fail
            refine (HNA.out _).mono ?_
            rintro e w6 ⟨rfl, hb6⟩
            have V6 : Hid (Five w6 n g7 g8 a b px py m j) := V5.out.grow hb6
            have B6 : Hid (Below n w w6) := below_n B5.out hb6 (by have := V5.out.1.lt; omega)
            clear hb6 lt5
            clear a0 a1 a2 a3
            obtain ⟨_, ⟨b0, b1, b2, b3⟩, _, _, j0, j1, j2, j3⟩ := V6.out.cells
            have lt6 := V6.out.1.lt
            obtain ⟨E1, E2, E3, E4⟩ := HE.out
            go_wp2_with fail
            refine (HAW.out _).mono ?_
            rintro e w7 ⟨rfl, hb7⟩
            have V7 : Hid (Five w7 n g7 g8 a b px py m j) := V6.out.grow hb7
            have B7 : Hid (Below n w w7) := below_n B6.out hb7 (by have := V6.out.1.lt; omega)
            clear hb7 lt6
            clear b0 b1 b2 b3 j0 j1 j2 j3
            have lt7 := V7.out.1.lt
            go_wp2_with fail
            go_ret
            exact ⟨rfl, by rw [Hn.out]; exact B7.out⟩
          · have HE : Hid (j.x0 = 0 ∧ j.y0 = 0 ∧ j.x1 = 0 ∧ j.y1 = 0) := by have h : j = ⟨0, 0, 0, 0⟩ := HJD.out; rw [h]; exact ⟨rfl, rfl, rfl, rfl⟩
            go_wp2_with fail
            refine (HNA.out _).mono ?_
            rintro e w4 ⟨rfl, hb4⟩
            have V4 : Hid (Five w4 n g7 g8 a b px py m j) := V3.out.grow hb4
            have B4 : Hid (Below n w w4) := below_n B3.out hb4 (by have := V3.out.1.lt; omega)
            clear hb4 lt3
            clear a0 a1 a2 a3
            obtain ⟨_, ⟨b0, b1, b2, b3⟩, _, _, _⟩ := V4.out.cells
            have lt4 := V4.out.1.lt
            go_wp2_with fail
            refine (HNB.out _).mono ?_
            rintro e w5 ⟨rfl, hb5⟩
            have V5 : Hid (Five w5 n g7 g8 a b px py m j) := V4.out.grow hb5
            have B5 : Hid (Below n w w5) := below_n B4.out hb5 (by have := V4.out.1.lt; omega)
            clear hb5 lt4
            clear b0 b1 b2 b3
            obtain ⟨_, _, _, _, j0, j1, j2, j3⟩ := V5.out.cells
            have lt5 := V5.out.1.lt
            obtain ⟨E1, E2, E3, E4⟩ := HE.out
            go_wp2_with fail
            refine (HAW.out _).mono ?_
            rintro e w6 ⟨rfl, hb6⟩
            have V6 : Hid (Five w6 n g7 g8 a b px py m j) := V5.out.grow hb6
            have B6 : Hid (Below n w w6) := below_n B5.out hb6 (by have := V5.out.1.lt; omega)
            clear hb6 lt5
            clear j0 j1 j2 j3
            have lt6 := V6.out.1.lt
            go_wp2_with fail
            go_ret
            exact ⟨rfl, by rw [Hn.out]; exact B6.out⟩
end Go.Proofs.Ytbllbncmeihaaaa
