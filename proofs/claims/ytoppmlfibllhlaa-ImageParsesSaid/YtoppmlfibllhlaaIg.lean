/- Layer 11: the document's Bytes. -/
import Derived.Test.YtoppmlfibllhlaaIf
import Derived.BigQuiet
namespace Go.Proofs.Ytoppmlfibllhlaa
open Go.RowKit
structure BytS (w : World) (W H : Int) (u v : Value) (E : List Int) (A : World) : Prop where
  below : Below w.heap.size w A
  size : w.heap.size + 1 ≤ A.heap.size
  box : Blk A w.heap.size 33 #[.int .i64 W, .int .i64 H, u]
  row : OwnB A (w.heap.size + 1) v E
theorem BytS.grow {w : World} {W H : Int} {u v : Value} {E : List Int} {A B : World} (h : BytS w W H u v E A) (hb : Below A.heap.size A B) : BytS w W H u v E B :=
  ⟨h.below.trans (hb.mono h.below.size), Nat.le_trans h.size hb.size, h.box.grow hb, h.row.grow hb⟩
theorem BytS.app {w : World} {W H : Int} {u v v' : Value} {E E' : List Int} {A B : World} (h : BytS w W H u v E A) (ho : OwnB B (w.heap.size + 1) v' E') (hg : A.grownBy B v.ownBlock) : BytS w W H u v' E' B :=
  ⟨own_below h.row hg h.below (by omega) h.below.size, Nat.le_trans h.size hg.size, own_blk h.row hg h.box (by omega), ho⟩
theorem news_byt (w : World) (Y : List Int) (t : TypeId) (cs : Array Value) (hcs : cs = (bytV Y).toArray) : ∀ j u, (bytV Y)[j]? = some u → (w.alloc (.cells cs t)).cell? ((⟨w.heap.size, 0, none⟩ : Addr).add j) = some u := fun j u hj => by
  subst hcs
  rw [Addr.add_lit, Nat.zero_add]
  exact ((Blk.new _ _ _).cell j).trans (by simpa using hj)
set_option maxHeartbeats 8000000 in
set_option maxRecDepth 100000 in
theorem ref11Bytes_c (W H : Int) (u : Value) (l : List Col) (w : World) (row : RowK .i64 w u l) (hok : ∀ c ∈ l, OkC c) (hW : 1 ≤ W ∧ W ≤ 256) (hH : 1 ≤ H ∧ H ≤ 256) (hl : l.length ≤ 70000) (hB : (bytesI W H l).length ≤ 90000) : Calls Try.prog 26 #[.agg #[.int .i64 W, .int .i64 H, u]] w fun e w' => ∃ v, e = .returned v ∧ OwnB w' w.heap.size v (bytesI W H l) ∧ Below w.heap.size w w' := by
  obtain ⟨au, cu, rfl⟩ := row.shape
  have HROW := Lib.hid row
  have HOK := Lib.hid hok
  obtain ⟨n, hn⟩ : ∃ n, l.length = n := ⟨_, rfl⟩
  have HN := Lib.hid hn
  obtain ⟨TOT, hTOT⟩ : ∃ T, bytesI W H l = T := ⟨_, rfl⟩
  obtain ⟨W1, hW1⟩ : ∃ z, W - 1 = z := ⟨_, rfl⟩
  obtain ⟨H1, hH1⟩ : ∃ z, H - 1 = z := ⟨_, rfl⟩
  have HT0 : Hid ([W1, H1] ++ runsB l n 0 = TOT) := by unfold Hid; rw [← hTOT, ← hW1, ← hH1, ← hn]; rfl
  rw [hTOT] at hB ⊢
  have HBD := Lib.hid hB
  have eW : wrap64 (W - 1) = W1 := by rw [hW1]; exact wrapR _ (by omega) (by omega)
  have eH : wrap64 (H - 1) = H1 := by rw [hH1]; exact wrapR _ (by omega) (by omega)
  have uW : IntKind.u8.wrap W1 = W1 := i64_u8 (by omega) (by omega)
  have uH : IntKind.u8.wrap H1 = H1 := i64_u8 (by omega) (by omega)
  rw [hn] at HROW hl ⊢
  clear row hok hn hTOT hW1 hH1 hB hW hH
  go_enter Try.func26, Try.ntmps26
  go_wp2_with fail
  clear eW eH uW uH
  go_loopw [3, 4] (fun s3 s4 wr => ∃ (i : Nat) (v : Value) (f : Nat) (E : List Int), i ≤ n ∧ n ≤ f + i ∧ s4 = .int .i64 (i : Int) ∧ s3 = v ∧ Hid (E ++ runsB l f i = TOT) ∧ Hid (BytS w W H (.slice au n cu) v (E) wr)) (fun _ s4 _ => n - (intOf s4).toNat)
  case atStart =>
    exact ⟨0, _, n, _, by omega, by omega, rfl, rfl, HT0, ((Below.refl _ _).alloc (Nat.le_refl _) _).alloc (by simp) _, by simp, (Blk.new _ _ _).alloc _, by
      have h := OwnB.made (base := w.heap.size + 1) (w.alloc (.cells #[.int .i64 W, .int .i64 H, .slice au n cu] 33)) (by rw [World.size_alloc]; exact Nat.le_refl _) [W1, H1] 2 _ rfl rfl (by decide)
      rw [World.size_alloc] at h
      exact h⟩
  case round =>
    obtain ⟨i, v, f, E, hi, hf, rfl, rfl, HTT, hw⟩ := hrel
    obtain ⟨w2, rfl⟩ : ∃ x, x = wr := ⟨_, rfl⟩
    have m2 := hw.out.box.cell 2
    simp only [List.getElem?_toArray, List.getElem?_cons_zero, List.getElem?_cons_succ] at m2
    by_cases hlt : i < n
    · have hd : decide ((i : Int) < (n : Int)) = true := by simp; omega
      have hki : (i : Int) < (n : Int) := by omega
      obtain ⟨x, hxx⟩ : ∃ x, cAt l i = x := ⟨_, rfl⟩
      have hx : l[i]? = some x := by rw [← hxx]; exact cAt_some (by rw [HN.out]; exact hlt)
      obtain ⟨d, p, rfl, hdl, hau⟩ := RowK.addr (HROW.out) (by rw [HN.out]; omega)
      have HAT : Hid (∀ A, Below w.heap.size w A → ColAt .i64 A d (p + i * 4) x) := fun A hA => (hau i x hx).on hA hdl
      have HALL : Hid (∀ j c, l[j]? = some c → ∀ A, Below w.heap.size w A → ColAt .i64 A d (p + j * 4) c) := fun j c hj A hA => (hau j c hj).on hA hdl
      have HOKX := Lib.hid (HOK.out x (List.mem_of_getElem? hx))
      obtain ⟨va, vc, rfl⟩ := hw.out.row.shape
      generalize E.length = vn at hw
      clear hx hdl hau
      go_wp2_with fail
      clear m2
      go_loopw [5] (fun s5 wr => ∃ (q f2 : Nat), q ≤ 256 ∧ i + q ≤ n ∧ s5 = .int .i64 (q : Int) ∧ 257 ≤ f2 + q ∧ Hid (runTo l i f2 q = runLen l i) ∧ Hid (BytS w W H (.slice (some ⟨d, p, none⟩) n cu) (.slice va vn vc) (E) wr)) (fun s5 _ => 256 - (intOf s5).toNat)
      case atStart => exact ⟨0, 257, by omega, by omega, rfl, by omega, rfl, hw.out⟩
      case round =>
        obtain ⟨q, f2, hq, hiq, rfl, hf2, HRT, hw3⟩ := hrel
        obtain ⟨w3, rfl⟩ : ∃ x, x = wr := ⟨_, rfl⟩
        obtain ⟨f3, hf3⟩ : ∃ g, g + 1 = f2 := ⟨f2 - 1, by omega⟩
        have HST : Hid (∀ A, Below w3.heap.size w3 A → BytS w W H (.slice (some ⟨d, p, none⟩) n cu) (.slice va vn vc) (E) A) := fun A hA => hw3.out.grow hA
        have M3 := hw3
        clear hw3
        by_cases c1 : q < 256
        · have F1 : Hid (decide ((q : Int) < 256) = true) := by unfold Hid; simp; omega
          obtain ⟨iq, hiqv⟩ : ∃ z, i + q = z := ⟨_, rfl⟩
          have FQ : Hid (wrap64 ((i : Int) + (q : Int)) = (iq : Int)) := by unfold Hid; rw [wrapR _ (by omega) (by omega)]; omega
          by_cases c2 : iq < n
          · have F2 : Hid (decide ((iq : Int) < (n : Int)) = true) := by unfold Hid; simp; omega
            have hqi : (iq : Int) < (n : Int) := by omega
            obtain ⟨y, hyy⟩ : ∃ y, cAt l iq = y := ⟨_, rfl⟩
            have hy : l[iq]? = some y := by rw [← hyy]; exact cAt_some (by rw [HN.out]; exact c2)
            have HAQ : Hid (∀ A, Below w.heap.size w A → ColAt .i64 A d (p + iq * 4) y) := HALL.out iq y hy
            have F30 := Lib.hid (equal64 y x)
            cases heq : eqC y x
            · have F3 : Hid (∀ w, (Op.equalIn 10000 43 (.agg #[.int .i64 (y 0), .int .i64 (y 1), .int .i64 (y 2), .int .i64 (y 3)]) (.agg #[.int .i64 (x 0), .int .i64 (x 1), .int .i64 (x 2), .int .i64 (x 3)])).run Try.prog w = .ok false w) := fun w => by rw [← heq]; exact F30.out w
              have HRL : Hid (runLen l i = q) := by
                unfold Hid; rw [← HRT.out, ← hf3]; show (if _ then _ else _) = q; rw [if_neg (by rw [hiqv, hyy, hxx, heq]; simp)]
              clear c1 c2 hiqv hyy hy heq HRT hf3 hf2 F30
              go_wp2_with fail
              refine wp_region_quiet (C := Out w3) (by kernel_rfl) (by kernel_rfl) ⟨rfl, rfl, rfl, Nat.le_refl _, fun _ _ => rfl⟩ ?_
              refine BigFrame.wpQuiet_want rfl (fun K hK => ?_)
              refine quiet_val (.int .i64 (q : Int)) (fun w' hw' => by go_simp) (hK _ ?_)
              clear hK K
              simp only [Act.put, List.setIfInBounds_toArray, List.set_cons_zero, List.set_cons_succ]
              refine BigFrame.wpQuiet_want rfl (fun K hK => ?_)
              refine quiet_val (.bool true) (fun w' hw' => by have e := F1.out; go_simp) (hK _ ?_)
              clear hK K
              simp only [Act.put, List.setIfInBounds_toArray, List.set_cons_zero, List.set_cons_succ]
              refine BigFrame.wpQuiet_want rfl (fun K hK => ?_)
              refine quiet_val (.bool true) (fun w' hw' => by go_simp) (hK _ ?_)
              clear hK K
              simp only [Act.put, List.setIfInBounds_toArray, List.set_cons_zero, List.set_cons_succ]
              refine BigFrame.wpQuiet_want rfl (fun K hK => ?_)
              refine quiet_val (.int .i64 (i : Int)) (fun w' hw' => by go_simp) (hK _ ?_)
              clear hK K
              simp only [Act.put, List.setIfInBounds_toArray, List.set_cons_zero, List.set_cons_succ]
              refine BigFrame.wpQuiet_want rfl (fun K hK => ?_)
              refine quiet_val (.int .i64 (q : Int)) (fun w' hw' => by go_simp) (hK _ ?_)
              clear hK K
              simp only [Act.put, List.setIfInBounds_toArray, List.set_cons_zero, List.set_cons_succ]
              refine BigFrame.wpQuiet_want rfl (fun K hK => ?_)
              refine quiet_val (.int .i64 (iq : Int)) (fun w' hw' => by have e := FQ.out; have e' := (wrap_is _).trans FQ.out; go_simp) (hK _ ?_)
              clear hK K
              simp only [Act.put, List.setIfInBounds_toArray, List.set_cons_zero, List.set_cons_succ]
              refine BigFrame.wpQuiet_want rfl (fun K hK => ?_)
              refine quiet_val (.pointer (some ⟨w.heap.size, 2, none⟩)) (fun w' hw' => by go_simp) (hK _ ?_)
              clear hK K
              simp only [Act.put, List.setIfInBounds_toArray, List.set_cons_zero, List.set_cons_succ]
              refine BigFrame.wpQuiet_want rfl (fun K hK => ?_)
              refine quiet_val (.slice (some ⟨d, p, none⟩) n cu) (fun w' hw' => by have c2 : w'.cell? ⟨w.heap.size, 2, none⟩ = some (.slice (some ⟨d, p, none⟩) n cu) := (HST.out w' hw').box.cell 2; go_simp) (hK _ ?_)
              clear hK K
              simp only [Act.put, List.setIfInBounds_toArray, List.set_cons_zero, List.set_cons_succ]
              refine BigFrame.wpQuiet_want rfl (fun K hK => ?_)
              refine quiet_val (.int .i64 (n : Int)) (fun w' hw' => by go_simp) (hK _ ?_)
              clear hK K
              simp only [Act.put, List.setIfInBounds_toArray, List.set_cons_zero, List.set_cons_succ]
              refine BigFrame.wpQuiet_want rfl (fun K hK => ?_)
              refine quiet_val (.bool true) (fun w' hw' => by have e := F2.out; go_simp) (hK _ ?_)
              clear hK K
              simp only [Act.put, List.setIfInBounds_toArray, List.set_cons_zero, List.set_cons_succ]
              refine BigFrame.wpQuiet_want rfl (fun K hK => ?_)
              refine quiet_val (.bool true) (fun w' hw' => by go_simp) (hK _ ?_)
              clear hK K
              simp only [Act.put, List.setIfInBounds_toArray, List.set_cons_zero, List.set_cons_succ]
              refine BigFrame.wpQuiet_want rfl (fun K hK => ?_)
              refine quiet_val (.bool true) (fun w' hw' => by go_simp) (hK _ ?_)
              clear hK K
              simp only [Act.put, List.setIfInBounds_toArray, List.set_cons_zero, List.set_cons_succ]
              refine BigFrame.wpQuiet_want rfl (fun K hK => ?_)
              refine quiet_val (.pointer (some ⟨w.heap.size, 2, none⟩)) (fun w' hw' => by go_simp) (hK _ ?_)
              clear hK K
              simp only [Act.put, List.setIfInBounds_toArray, List.set_cons_zero, List.set_cons_succ]
              refine BigFrame.wpQuiet_want rfl (fun K hK => ?_)
              refine quiet_val (.slice (some ⟨d, p, none⟩) n cu) (fun w' hw' => by have c2 : w'.cell? ⟨w.heap.size, 2, none⟩ = some (.slice (some ⟨d, p, none⟩) n cu) := (HST.out w' hw').box.cell 2; go_simp) (hK _ ?_)
              clear hK K
              simp only [Act.put, List.setIfInBounds_toArray, List.set_cons_zero, List.set_cons_succ]
              refine BigFrame.wpQuiet_want rfl (fun K hK => ?_)
              refine quiet_val (.int .i64 (i : Int)) (fun w' hw' => by go_simp) (hK _ ?_)
              clear hK K
              simp only [Act.put, List.setIfInBounds_toArray, List.set_cons_zero, List.set_cons_succ]
              refine BigFrame.wpQuiet_want rfl (fun K hK => ?_)
              refine quiet_val (.int .i64 (q : Int)) (fun w' hw' => by go_simp) (hK _ ?_)
              clear hK K
              simp only [Act.put, List.setIfInBounds_toArray, List.set_cons_zero, List.set_cons_succ]
              refine BigFrame.wpQuiet_want rfl (fun K hK => ?_)
              refine quiet_val (.int .i64 (iq : Int)) (fun w' hw' => by have e := FQ.out; have e' := (wrap_is _).trans FQ.out; go_simp) (hK _ ?_)
              clear hK K
              simp only [Act.put, List.setIfInBounds_toArray, List.set_cons_zero, List.set_cons_succ]
              refine BigFrame.wpQuiet_want rfl (fun K hK => ?_)
              refine quiet_val (.pointer (some ⟨d, p + iq * 4, none⟩)) (fun w' hw' => by go_simp) (hK _ ?_)
              clear hK K
              simp only [Act.put, List.setIfInBounds_toArray, List.set_cons_zero, List.set_cons_succ]
              refine BigFrame.wpQuiet_want rfl (fun K hK => ?_)
              refine quiet_val (.agg #[.int .i64 (y 0), .int .i64 (y 1), .int .i64 (y 2), .int .i64 (y 3)]) (fun w' hw' => by obtain ⟨c0, c1, c2, c3⟩ := HAQ.out w' (HST.out w' hw').below; go_simp) (hK _ ?_)
              clear hK K
              simp only [Act.put, List.setIfInBounds_toArray, List.set_cons_zero, List.set_cons_succ]
              refine BigFrame.wpQuiet_want rfl (fun K hK => ?_)
              refine quiet_val (.pointer (some ⟨w.heap.size, 2, none⟩)) (fun w' hw' => by go_simp) (hK _ ?_)
              clear hK K
              simp only [Act.put, List.setIfInBounds_toArray, List.set_cons_zero, List.set_cons_succ]
              refine BigFrame.wpQuiet_want rfl (fun K hK => ?_)
              refine quiet_val (.slice (some ⟨d, p, none⟩) n cu) (fun w' hw' => by have c2 : w'.cell? ⟨w.heap.size, 2, none⟩ = some (.slice (some ⟨d, p, none⟩) n cu) := (HST.out w' hw').box.cell 2; go_simp) (hK _ ?_)
              clear hK K
              simp only [Act.put, List.setIfInBounds_toArray, List.set_cons_zero, List.set_cons_succ]
              refine BigFrame.wpQuiet_want rfl (fun K hK => ?_)
              refine quiet_val (.int .i64 (i : Int)) (fun w' hw' => by go_simp) (hK _ ?_)
              clear hK K
              simp only [Act.put, List.setIfInBounds_toArray, List.set_cons_zero, List.set_cons_succ]
              refine BigFrame.wpQuiet_want rfl (fun K hK => ?_)
              refine quiet_val (.pointer (some ⟨d, p + i * 4, none⟩)) (fun w' hw' => by go_simp) (hK _ ?_)
              clear hK K
              simp only [Act.put, List.setIfInBounds_toArray, List.set_cons_zero, List.set_cons_succ]
              refine BigFrame.wpQuiet_want rfl (fun K hK => ?_)
              refine quiet_val (.agg #[.int .i64 (x 0), .int .i64 (x 1), .int .i64 (x 2), .int .i64 (x 3)]) (fun w' hw' => by obtain ⟨c0, c1, c2, c3⟩ := HAT.out w' (HST.out w' hw').below; go_simp) (hK _ ?_)
              clear hK K
              simp only [Act.put, List.setIfInBounds_toArray, List.set_cons_zero, List.set_cons_succ]
              refine BigFrame.wpQuiet_want rfl (fun K hK => ?_)
              refine quiet_val (.bool false) (fun w' hw' => by have e := F3.out; go_simp) (hK _ ?_)
              clear hK K
              simp only [Act.put, List.setIfInBounds_toArray, List.set_cons_zero, List.set_cons_succ]
              refine BigFrame.wpQuiet_want rfl (fun K hK => ?_)
              refine quiet_val (.bool false) (fun w' hw' => by go_simp) (hK _ ?_)
              clear hK K
              simp only [Act.put, List.setIfInBounds_toArray, List.set_cons_zero, List.set_cons_succ]
              refine wpQuiet_nil ?_
              intro w4 hb
              have M4 := Lib.hid (HST.out w4 hb)
              clear hb
              have hrl := runLen_in (l := l) (i := i) (by rw [HN.out]; exact hlt)
              rw [HRL.out, HN.out] at hrl
              obtain ⟨q1, hq1⟩ : ∃ z : Int, (q : Int) - 1 = z := ⟨_, rfl⟩
              obtain ⟨fo, hfo⟩ : ∃ g, g + 1 = f := ⟨f - 1, by omega⟩
              have HTN : Hid ((E ++ (q1 :: colB x)) ++ runsB l fo (i + q) = TOT) := by
                unfold Hid
                rw [← HTT.out, ← hfo, runsB_step (by rw [HN.out]; exact hlt) HRL.out hxx, hq1, List.append_assoc]
              have HLE : Hid (E.length + 5 ≤ 100000) := by
                have h := congrArg List.length HTN.out
                have h2 := HBD.out
                simp only [List.length_append, List.length_cons, colB, List.length_nil] at h
                unfold Hid; omega
              obtain ⟨iq2, hiq2⟩ : ∃ z, i + q = z := ⟨_, rfl⟩
              have FC : wrap64 ((i : Int) + (q : Int)) = (iq2 : Int) := by rw [wrapR _ (by omega) (by omega)]; omega
              have hfi : n ≤ fo + iq2 := by omega
              have hin : iq2 ≤ n := by omega
              have hlt2 : i < iq2 := by omega
              rw [hiq2] at HTN
              have FA : wrap64 ((q : Int) - 1) = q1 := by rw [hq1]; exact wrapR _ (by omega) (by omega)
              have FD : ((q : Int) - 1) % 256 = q1 := by omega
              have FB : IntKind.u8.wrap q1 = q1 := i64_u8 (by omega) (by omega)
              have X0 : IntKind.u8.wrap (x 0) = x 0 := i64_u8 (HOKX.out 0 (by decide)).1 (HOKX.out 0 (by decide)).2
              have X1 : IntKind.u8.wrap (x 1) = x 1 := i64_u8 (HOKX.out 1 (by decide)).1 (HOKX.out 1 (by decide)).2
              have X2 : IntKind.u8.wrap (x 2) = x 2 := i64_u8 (HOKX.out 2 (by decide)).1 (HOKX.out 2 (by decide)).2
              have X3 : IntKind.u8.wrap (x 3) = x 3 := i64_u8 (HOKX.out 3 (by decide)).1 (HOKX.out 3 (by decide)).2
              have b2 := M4.out.box.cell 2
              simp only [List.getElem?_toArray, List.getElem?_cons_zero, List.getElem?_cons_succ] at b2
              obtain ⟨k0, k1, k2, k3⟩ := HAT.out w4 M4.out.below
              have HA : Hid (BytS w W H (.slice (some ⟨d, p, none⟩) n cu) (.slice va vn vc) (E) ((w4.alloc (.cells #[.int .i64 (x 0), .int .i64 (x 1), .int .i64 (x 2), .int .i64 (x 3)] 43)).alloc (.cells #[.int .u8 q1, .int .u8 (x 0), .int .u8 (x 1), .int .u8 (x 2), .int .u8 (x 3)] 5))) := (M4.out.grow ((Below.refl _ _).alloc (Nat.le_refl _) _)).grow ((Below.refl _ _).alloc (Nat.le_refl _) _)
              have HX : Hid (∀ j u, (bytV (q1 :: colB x))[j]? = some u → ((w4.alloc (.cells #[.int .i64 (x 0), .int .i64 (x 1), .int .i64 (x 2), .int .i64 (x 3)] 43)).alloc (.cells #[.int .u8 q1, .int .u8 (x 0), .int .u8 (x 1), .int .u8 (x 2), .int .u8 (x 3)] 5)).cell? ((⟨(w4.alloc (.cells #[.int .i64 (x 0), .int .i64 (x 1), .int .i64 (x 2), .int .i64 (x 3)] 43)).heap.size, 0, none⟩ : Addr).add j) = some u) := news_byt _ _ _ _ rfl
              rw [World.size_alloc] at HX
              have HI2 := Lib.hid hiq2
              clear hrl hq1 hfo hiq2 HST M3
              go_wp2_with (at_builtin; go_loud (refine wpList_append_byts rfl _ _ 58 rfl Try.underlying58 (w.heap.size + 1) _ E rfl HA.out.row ⟨w4.heap.size + 1, 0, none⟩ 5 5 (q1 :: colB x) rfl rfl HX.out HLE.out HA.out.size ?_))
              intro v' w5 ho hg _
              have HB5 := Lib.hid (HA.out.app ho hg)
              obtain ⟨xa, xc, rfl⟩ := ho.shape
              generalize (E ++ (q1 :: colB x)).length = xn at *
              clear ho hg HA HX k0 k1 k2 k3 b2
              go_wp2_with fail
              have hiq2 := HI2.out
              exact ⟨⟨iq2, _, fo, _, hin, hfi, by go_num, rfl, HTN, HB5⟩, by simp [intOf]; omega⟩
            · have F3 : Hid (∀ w, (Op.equalIn 10000 43 (.agg #[.int .i64 (y 0), .int .i64 (y 1), .int .i64 (y 2), .int .i64 (y 3)]) (.agg #[.int .i64 (x 0), .int .i64 (x 1), .int .i64 (x 2), .int .i64 (x 3)])).run Try.prog w = .ok true w) := fun w => by rw [← heq]; exact F30.out w
              have HRN : Hid (runTo l i f3 (q + 1) = runLen l i) := by
                unfold Hid; rw [← HRT.out, ← hf3]
                have e0 : runTo l i (f3 + 1) q = if q < 256 ∧ i + q < l.length ∧ eqC (cAt l (i + q)) (cAt l i) = true then runTo l i f3 (q + 1) else q := rfl
                rw [e0, if_pos ⟨c1, by rw [HN.out]; omega, by rw [hiqv, hyy, hxx, heq]⟩]
              have hqn : i + (q + 1) ≤ n := by omega
              have hf4 : 257 ≤ f3 + (q + 1) := by omega
              clear c2 hiqv hyy hy heq HRT hf3 hf2 F30
              go_wp2_with fail
              refine wp_region_quiet (C := Out w3) (by kernel_rfl) (by kernel_rfl) ⟨rfl, rfl, rfl, Nat.le_refl _, fun _ _ => rfl⟩ ?_
              refine BigFrame.wpQuiet_want rfl (fun K hK => ?_)
              refine quiet_val (.int .i64 (q : Int)) (fun w' hw' => by go_simp) (hK _ ?_)
              clear hK K
              simp only [Act.put, List.setIfInBounds_toArray, List.set_cons_zero, List.set_cons_succ]
              refine BigFrame.wpQuiet_want rfl (fun K hK => ?_)
              refine quiet_val (.bool true) (fun w' hw' => by have e := F1.out; go_simp) (hK _ ?_)
              clear hK K
              simp only [Act.put, List.setIfInBounds_toArray, List.set_cons_zero, List.set_cons_succ]
              refine BigFrame.wpQuiet_want rfl (fun K hK => ?_)
              refine quiet_val (.bool true) (fun w' hw' => by go_simp) (hK _ ?_)
              clear hK K
              simp only [Act.put, List.setIfInBounds_toArray, List.set_cons_zero, List.set_cons_succ]
              refine BigFrame.wpQuiet_want rfl (fun K hK => ?_)
              refine quiet_val (.int .i64 (i : Int)) (fun w' hw' => by go_simp) (hK _ ?_)
              clear hK K
              simp only [Act.put, List.setIfInBounds_toArray, List.set_cons_zero, List.set_cons_succ]
              refine BigFrame.wpQuiet_want rfl (fun K hK => ?_)
              refine quiet_val (.int .i64 (q : Int)) (fun w' hw' => by go_simp) (hK _ ?_)
              clear hK K
              simp only [Act.put, List.setIfInBounds_toArray, List.set_cons_zero, List.set_cons_succ]
              refine BigFrame.wpQuiet_want rfl (fun K hK => ?_)
              refine quiet_val (.int .i64 (iq : Int)) (fun w' hw' => by have e := FQ.out; have e' := (wrap_is _).trans FQ.out; go_simp) (hK _ ?_)
              clear hK K
              simp only [Act.put, List.setIfInBounds_toArray, List.set_cons_zero, List.set_cons_succ]
              refine BigFrame.wpQuiet_want rfl (fun K hK => ?_)
              refine quiet_val (.pointer (some ⟨w.heap.size, 2, none⟩)) (fun w' hw' => by go_simp) (hK _ ?_)
              clear hK K
              simp only [Act.put, List.setIfInBounds_toArray, List.set_cons_zero, List.set_cons_succ]
              refine BigFrame.wpQuiet_want rfl (fun K hK => ?_)
              refine quiet_val (.slice (some ⟨d, p, none⟩) n cu) (fun w' hw' => by have c2 : w'.cell? ⟨w.heap.size, 2, none⟩ = some (.slice (some ⟨d, p, none⟩) n cu) := (HST.out w' hw').box.cell 2; go_simp) (hK _ ?_)
              clear hK K
              simp only [Act.put, List.setIfInBounds_toArray, List.set_cons_zero, List.set_cons_succ]
              refine BigFrame.wpQuiet_want rfl (fun K hK => ?_)
              refine quiet_val (.int .i64 (n : Int)) (fun w' hw' => by go_simp) (hK _ ?_)
              clear hK K
              simp only [Act.put, List.setIfInBounds_toArray, List.set_cons_zero, List.set_cons_succ]
              refine BigFrame.wpQuiet_want rfl (fun K hK => ?_)
              refine quiet_val (.bool true) (fun w' hw' => by have e := F2.out; go_simp) (hK _ ?_)
              clear hK K
              simp only [Act.put, List.setIfInBounds_toArray, List.set_cons_zero, List.set_cons_succ]
              refine BigFrame.wpQuiet_want rfl (fun K hK => ?_)
              refine quiet_val (.bool true) (fun w' hw' => by go_simp) (hK _ ?_)
              clear hK K
              simp only [Act.put, List.setIfInBounds_toArray, List.set_cons_zero, List.set_cons_succ]
              refine BigFrame.wpQuiet_want rfl (fun K hK => ?_)
              refine quiet_val (.bool true) (fun w' hw' => by go_simp) (hK _ ?_)
              clear hK K
              simp only [Act.put, List.setIfInBounds_toArray, List.set_cons_zero, List.set_cons_succ]
              refine BigFrame.wpQuiet_want rfl (fun K hK => ?_)
              refine quiet_val (.pointer (some ⟨w.heap.size, 2, none⟩)) (fun w' hw' => by go_simp) (hK _ ?_)
              clear hK K
              simp only [Act.put, List.setIfInBounds_toArray, List.set_cons_zero, List.set_cons_succ]
              refine BigFrame.wpQuiet_want rfl (fun K hK => ?_)
              refine quiet_val (.slice (some ⟨d, p, none⟩) n cu) (fun w' hw' => by have c2 : w'.cell? ⟨w.heap.size, 2, none⟩ = some (.slice (some ⟨d, p, none⟩) n cu) := (HST.out w' hw').box.cell 2; go_simp) (hK _ ?_)
              clear hK K
              simp only [Act.put, List.setIfInBounds_toArray, List.set_cons_zero, List.set_cons_succ]
              refine BigFrame.wpQuiet_want rfl (fun K hK => ?_)
              refine quiet_val (.int .i64 (i : Int)) (fun w' hw' => by go_simp) (hK _ ?_)
              clear hK K
              simp only [Act.put, List.setIfInBounds_toArray, List.set_cons_zero, List.set_cons_succ]
              refine BigFrame.wpQuiet_want rfl (fun K hK => ?_)
              refine quiet_val (.int .i64 (q : Int)) (fun w' hw' => by go_simp) (hK _ ?_)
              clear hK K
              simp only [Act.put, List.setIfInBounds_toArray, List.set_cons_zero, List.set_cons_succ]
              refine BigFrame.wpQuiet_want rfl (fun K hK => ?_)
              refine quiet_val (.int .i64 (iq : Int)) (fun w' hw' => by have e := FQ.out; have e' := (wrap_is _).trans FQ.out; go_simp) (hK _ ?_)
              clear hK K
              simp only [Act.put, List.setIfInBounds_toArray, List.set_cons_zero, List.set_cons_succ]
              refine BigFrame.wpQuiet_want rfl (fun K hK => ?_)
              refine quiet_val (.pointer (some ⟨d, p + iq * 4, none⟩)) (fun w' hw' => by go_simp) (hK _ ?_)
              clear hK K
              simp only [Act.put, List.setIfInBounds_toArray, List.set_cons_zero, List.set_cons_succ]
              refine BigFrame.wpQuiet_want rfl (fun K hK => ?_)
              refine quiet_val (.agg #[.int .i64 (y 0), .int .i64 (y 1), .int .i64 (y 2), .int .i64 (y 3)]) (fun w' hw' => by obtain ⟨c0, c1, c2, c3⟩ := HAQ.out w' (HST.out w' hw').below; go_simp) (hK _ ?_)
              clear hK K
              simp only [Act.put, List.setIfInBounds_toArray, List.set_cons_zero, List.set_cons_succ]
              refine BigFrame.wpQuiet_want rfl (fun K hK => ?_)
              refine quiet_val (.pointer (some ⟨w.heap.size, 2, none⟩)) (fun w' hw' => by go_simp) (hK _ ?_)
              clear hK K
              simp only [Act.put, List.setIfInBounds_toArray, List.set_cons_zero, List.set_cons_succ]
              refine BigFrame.wpQuiet_want rfl (fun K hK => ?_)
              refine quiet_val (.slice (some ⟨d, p, none⟩) n cu) (fun w' hw' => by have c2 : w'.cell? ⟨w.heap.size, 2, none⟩ = some (.slice (some ⟨d, p, none⟩) n cu) := (HST.out w' hw').box.cell 2; go_simp) (hK _ ?_)
              clear hK K
              simp only [Act.put, List.setIfInBounds_toArray, List.set_cons_zero, List.set_cons_succ]
              refine BigFrame.wpQuiet_want rfl (fun K hK => ?_)
              refine quiet_val (.int .i64 (i : Int)) (fun w' hw' => by go_simp) (hK _ ?_)
              clear hK K
              simp only [Act.put, List.setIfInBounds_toArray, List.set_cons_zero, List.set_cons_succ]
              refine BigFrame.wpQuiet_want rfl (fun K hK => ?_)
              refine quiet_val (.pointer (some ⟨d, p + i * 4, none⟩)) (fun w' hw' => by go_simp) (hK _ ?_)
              clear hK K
              simp only [Act.put, List.setIfInBounds_toArray, List.set_cons_zero, List.set_cons_succ]
              refine BigFrame.wpQuiet_want rfl (fun K hK => ?_)
              refine quiet_val (.agg #[.int .i64 (x 0), .int .i64 (x 1), .int .i64 (x 2), .int .i64 (x 3)]) (fun w' hw' => by obtain ⟨c0, c1, c2, c3⟩ := HAT.out w' (HST.out w' hw').below; go_simp) (hK _ ?_)
              clear hK K
              simp only [Act.put, List.setIfInBounds_toArray, List.set_cons_zero, List.set_cons_succ]
              refine BigFrame.wpQuiet_want rfl (fun K hK => ?_)
              refine quiet_val (.bool true) (fun w' hw' => by have e := F3.out; go_simp) (hK _ ?_)
              clear hK K
              simp only [Act.put, List.setIfInBounds_toArray, List.set_cons_zero, List.set_cons_succ]
              refine BigFrame.wpQuiet_want rfl (fun K hK => ?_)
              refine quiet_val (.bool true) (fun w' hw' => by go_simp) (hK _ ?_)
              clear hK K
              simp only [Act.put, List.setIfInBounds_toArray, List.set_cons_zero, List.set_cons_succ]
              refine wpQuiet_nil ?_
              intro w4 hb
              have M4 := Lib.hid (HST.out w4 hb)
              clear hb
              go_wp2_with fail
              exact ⟨⟨q + 1, f3, by omega, by omega, by go_num, by omega, HRN, M4⟩, by simp [intOf]; omega⟩
          · have F2 : Hid (decide ((iq : Int) < (n : Int)) = false) := by unfold Hid; simp; omega
            have HNI : Hid (n ≤ iq) := by unfold Hid; omega
            have HRL : Hid (runLen l i = q) := by
              unfold Hid; rw [← HRT.out, ← hf3]; show (if _ then _ else _) = q; rw [if_neg (by rw [hiqv, HN.out]; exact fun hh => c2 hh.2.1)]
            clear c1 c2 hiqv HRT hf3 hf2
            go_wp2_with fail
            refine wp_region_quiet (C := Out w3) (by kernel_rfl) (by kernel_rfl) ⟨rfl, rfl, rfl, Nat.le_refl _, fun _ _ => rfl⟩ ?_
            refine BigFrame.wpQuiet_want rfl (fun K hK => ?_)
            refine quiet_val (.int .i64 (q : Int)) (fun w' hw' => by go_simp) (hK _ ?_)
            clear hK K
            simp only [Act.put, List.setIfInBounds_toArray, List.set_cons_zero, List.set_cons_succ]
            refine BigFrame.wpQuiet_want rfl (fun K hK => ?_)
            refine quiet_val (.bool true) (fun w' hw' => by have e := F1.out; go_simp) (hK _ ?_)
            clear hK K
            simp only [Act.put, List.setIfInBounds_toArray, List.set_cons_zero, List.set_cons_succ]
            refine BigFrame.wpQuiet_want rfl (fun K hK => ?_)
            refine quiet_val (.bool true) (fun w' hw' => by go_simp) (hK _ ?_)
            clear hK K
            simp only [Act.put, List.setIfInBounds_toArray, List.set_cons_zero, List.set_cons_succ]
            refine BigFrame.wpQuiet_want rfl (fun K hK => ?_)
            refine quiet_val (.int .i64 (i : Int)) (fun w' hw' => by go_simp) (hK _ ?_)
            clear hK K
            simp only [Act.put, List.setIfInBounds_toArray, List.set_cons_zero, List.set_cons_succ]
            refine BigFrame.wpQuiet_want rfl (fun K hK => ?_)
            refine quiet_val (.int .i64 (q : Int)) (fun w' hw' => by go_simp) (hK _ ?_)
            clear hK K
            simp only [Act.put, List.setIfInBounds_toArray, List.set_cons_zero, List.set_cons_succ]
            refine BigFrame.wpQuiet_want rfl (fun K hK => ?_)
            refine quiet_val (.int .i64 (iq : Int)) (fun w' hw' => by have e := FQ.out; have e' := (wrap_is _).trans FQ.out; go_simp) (hK _ ?_)
            clear hK K
            simp only [Act.put, List.setIfInBounds_toArray, List.set_cons_zero, List.set_cons_succ]
            refine BigFrame.wpQuiet_want rfl (fun K hK => ?_)
            refine quiet_val (.pointer (some ⟨w.heap.size, 2, none⟩)) (fun w' hw' => by go_simp) (hK _ ?_)
            clear hK K
            simp only [Act.put, List.setIfInBounds_toArray, List.set_cons_zero, List.set_cons_succ]
            refine BigFrame.wpQuiet_want rfl (fun K hK => ?_)
            refine quiet_val (.slice (some ⟨d, p, none⟩) n cu) (fun w' hw' => by have c2 : w'.cell? ⟨w.heap.size, 2, none⟩ = some (.slice (some ⟨d, p, none⟩) n cu) := (HST.out w' hw').box.cell 2; go_simp) (hK _ ?_)
            clear hK K
            simp only [Act.put, List.setIfInBounds_toArray, List.set_cons_zero, List.set_cons_succ]
            refine BigFrame.wpQuiet_want rfl (fun K hK => ?_)
            refine quiet_val (.int .i64 (n : Int)) (fun w' hw' => by go_simp) (hK _ ?_)
            clear hK K
            simp only [Act.put, List.setIfInBounds_toArray, List.set_cons_zero, List.set_cons_succ]
            refine BigFrame.wpQuiet_want rfl (fun K hK => ?_)
            refine quiet_val (.bool false) (fun w' hw' => by have e := F2.out; have e3 := HNI.out; go_simp) (hK _ ?_)
            clear hK K
            simp only [Act.put, List.setIfInBounds_toArray, List.set_cons_zero, List.set_cons_succ]
            refine BigFrame.wpQuiet_want rfl (fun K hK => ?_)
            refine quiet_val (.bool false) (fun w' hw' => by go_simp) (hK _ ?_)
            clear hK K
            simp only [Act.put, List.setIfInBounds_toArray, List.set_cons_zero, List.set_cons_succ]
            refine BigFrame.wpQuiet_want rfl (fun K hK => ?_)
            refine quiet_val (.bool false) (fun w' hw' => by go_simp) (hK _ ?_)
            clear hK K
            simp only [Act.put, List.setIfInBounds_toArray, List.set_cons_zero, List.set_cons_succ]
            go_big_quiet_skip
            go_big_quiet_skip
            go_big_quiet_skip
            go_big_quiet_skip
            go_big_quiet_skip
            go_big_quiet_skip
            go_big_quiet_skip
            go_big_quiet_skip
            go_big_quiet_skip
            go_big_quiet_skip
            go_big_quiet_skip
            go_big_quiet_skip
            go_big_quiet_skip
            refine BigFrame.wpQuiet_want rfl (fun K hK => ?_)
            refine quiet_val (.bool false) (fun w' hw' => by go_simp) (hK _ ?_)
            clear hK K
            simp only [Act.put, List.setIfInBounds_toArray, List.set_cons_zero, List.set_cons_succ]
            refine wpQuiet_nil ?_
            intro w4 hb
            have M4 := Lib.hid (HST.out w4 hb)
            clear hb
            have hrl := runLen_in (l := l) (i := i) (by rw [HN.out]; exact hlt)
            rw [HRL.out, HN.out] at hrl
            obtain ⟨q1, hq1⟩ : ∃ z : Int, (q : Int) - 1 = z := ⟨_, rfl⟩
            obtain ⟨fo, hfo⟩ : ∃ g, g + 1 = f := ⟨f - 1, by omega⟩
            have HTN : Hid ((E ++ (q1 :: colB x)) ++ runsB l fo (i + q) = TOT) := by
              unfold Hid
              rw [← HTT.out, ← hfo, runsB_step (by rw [HN.out]; exact hlt) HRL.out hxx, hq1, List.append_assoc]
            have HLE : Hid (E.length + 5 ≤ 100000) := by
              have h := congrArg List.length HTN.out
              have h2 := HBD.out
              simp only [List.length_append, List.length_cons, colB, List.length_nil] at h
              unfold Hid; omega
            obtain ⟨iq2, hiq2⟩ : ∃ z, i + q = z := ⟨_, rfl⟩
            have FC : wrap64 ((i : Int) + (q : Int)) = (iq2 : Int) := by rw [wrapR _ (by omega) (by omega)]; omega
            have hfi : n ≤ fo + iq2 := by omega
            have hin : iq2 ≤ n := by omega
            have hlt2 : i < iq2 := by omega
            rw [hiq2] at HTN
            have FA : wrap64 ((q : Int) - 1) = q1 := by rw [hq1]; exact wrapR _ (by omega) (by omega)
            have FD : ((q : Int) - 1) % 256 = q1 := by omega
            have FB : IntKind.u8.wrap q1 = q1 := i64_u8 (by omega) (by omega)
            have X0 : IntKind.u8.wrap (x 0) = x 0 := i64_u8 (HOKX.out 0 (by decide)).1 (HOKX.out 0 (by decide)).2
            have X1 : IntKind.u8.wrap (x 1) = x 1 := i64_u8 (HOKX.out 1 (by decide)).1 (HOKX.out 1 (by decide)).2
            have X2 : IntKind.u8.wrap (x 2) = x 2 := i64_u8 (HOKX.out 2 (by decide)).1 (HOKX.out 2 (by decide)).2
            have X3 : IntKind.u8.wrap (x 3) = x 3 := i64_u8 (HOKX.out 3 (by decide)).1 (HOKX.out 3 (by decide)).2
            have b2 := M4.out.box.cell 2
            simp only [List.getElem?_toArray, List.getElem?_cons_zero, List.getElem?_cons_succ] at b2
            obtain ⟨k0, k1, k2, k3⟩ := HAT.out w4 M4.out.below
            have HA : Hid (BytS w W H (.slice (some ⟨d, p, none⟩) n cu) (.slice va vn vc) (E) ((w4.alloc (.cells #[.int .i64 (x 0), .int .i64 (x 1), .int .i64 (x 2), .int .i64 (x 3)] 43)).alloc (.cells #[.int .u8 q1, .int .u8 (x 0), .int .u8 (x 1), .int .u8 (x 2), .int .u8 (x 3)] 5))) := (M4.out.grow ((Below.refl _ _).alloc (Nat.le_refl _) _)).grow ((Below.refl _ _).alloc (Nat.le_refl _) _)
            have HX : Hid (∀ j u, (bytV (q1 :: colB x))[j]? = some u → ((w4.alloc (.cells #[.int .i64 (x 0), .int .i64 (x 1), .int .i64 (x 2), .int .i64 (x 3)] 43)).alloc (.cells #[.int .u8 q1, .int .u8 (x 0), .int .u8 (x 1), .int .u8 (x 2), .int .u8 (x 3)] 5)).cell? ((⟨(w4.alloc (.cells #[.int .i64 (x 0), .int .i64 (x 1), .int .i64 (x 2), .int .i64 (x 3)] 43)).heap.size, 0, none⟩ : Addr).add j) = some u) := news_byt _ _ _ _ rfl
            rw [World.size_alloc] at HX
            have HI2 := Lib.hid hiq2
            clear hrl hq1 hfo hiq2 HST M3
            go_wp2_with (at_builtin; go_loud (refine wpList_append_byts rfl _ _ 58 rfl Try.underlying58 (w.heap.size + 1) _ E rfl HA.out.row ⟨w4.heap.size + 1, 0, none⟩ 5 5 (q1 :: colB x) rfl rfl HX.out HLE.out HA.out.size ?_))
            intro v' w5 ho hg _
            have HB5 := Lib.hid (HA.out.app ho hg)
            obtain ⟨xa, xc, rfl⟩ := ho.shape
            generalize (E ++ (q1 :: colB x)).length = xn at *
            clear ho hg HA HX k0 k1 k2 k3 b2
            go_wp2_with fail
            have hiq2 := HI2.out
            exact ⟨⟨iq2, _, fo, _, hin, hfi, by go_num, rfl, HTN, HB5⟩, by simp [intOf]; omega⟩
        · have F1 : Hid (decide ((q : Int) < 256) = false) := by unfold Hid; simp; omega
          have HRL : Hid (runLen l i = q) := by
            unfold Hid; rw [← HRT.out, ← hf3]; show (if _ then _ else _) = q; rw [if_neg (by omega)]
          clear c1 HRT hf3 hf2
          go_wp2_with fail
          refine wp_region_quiet (C := Out w3) (by kernel_rfl) (by kernel_rfl) ⟨rfl, rfl, rfl, Nat.le_refl _, fun _ _ => rfl⟩ ?_
          refine BigFrame.wpQuiet_want rfl (fun K hK => ?_)
          refine quiet_val (.int .i64 (q : Int)) (fun w' hw' => by go_simp) (hK _ ?_)
          clear hK K
          simp only [Act.put, List.setIfInBounds_toArray, List.set_cons_zero, List.set_cons_succ]
          refine BigFrame.wpQuiet_want rfl (fun K hK => ?_)
          refine quiet_val (.bool false) (fun w' hw' => by have e := F1.out; go_simp) (hK _ ?_)
          clear hK K
          simp only [Act.put, List.setIfInBounds_toArray, List.set_cons_zero, List.set_cons_succ]
          refine BigFrame.wpQuiet_want rfl (fun K hK => ?_)
          refine quiet_val (.bool false) (fun w' hw' => by go_simp) (hK _ ?_)
          clear hK K
          simp only [Act.put, List.setIfInBounds_toArray, List.set_cons_zero, List.set_cons_succ]
          go_big_quiet_skip
          go_big_quiet_skip
          go_big_quiet_skip
          go_big_quiet_skip
          go_big_quiet_skip
          go_big_quiet_skip
          go_big_quiet_skip
          refine BigFrame.wpQuiet_want rfl (fun K hK => ?_)
          refine quiet_val (.bool false) (fun w' hw' => by go_simp) (hK _ ?_)
          clear hK K
          simp only [Act.put, List.setIfInBounds_toArray, List.set_cons_zero, List.set_cons_succ]
          refine BigFrame.wpQuiet_want rfl (fun K hK => ?_)
          refine quiet_val (.bool false) (fun w' hw' => by go_simp) (hK _ ?_)
          clear hK K
          simp only [Act.put, List.setIfInBounds_toArray, List.set_cons_zero, List.set_cons_succ]
          go_big_quiet_skip
          go_big_quiet_skip
          go_big_quiet_skip
          go_big_quiet_skip
          go_big_quiet_skip
          go_big_quiet_skip
          go_big_quiet_skip
          go_big_quiet_skip
          go_big_quiet_skip
          go_big_quiet_skip
          go_big_quiet_skip
          go_big_quiet_skip
          go_big_quiet_skip
          refine BigFrame.wpQuiet_want rfl (fun K hK => ?_)
          refine quiet_val (.bool false) (fun w' hw' => by go_simp) (hK _ ?_)
          clear hK K
          simp only [Act.put, List.setIfInBounds_toArray, List.set_cons_zero, List.set_cons_succ]
          refine wpQuiet_nil ?_
          intro w4 hb
          have M4 := Lib.hid (HST.out w4 hb)
          clear hb
          have hrl := runLen_in (l := l) (i := i) (by rw [HN.out]; exact hlt)
          rw [HRL.out, HN.out] at hrl
          obtain ⟨q1, hq1⟩ : ∃ z : Int, (q : Int) - 1 = z := ⟨_, rfl⟩
          obtain ⟨fo, hfo⟩ : ∃ g, g + 1 = f := ⟨f - 1, by omega⟩
          have HTN : Hid ((E ++ (q1 :: colB x)) ++ runsB l fo (i + q) = TOT) := by
            unfold Hid
            rw [← HTT.out, ← hfo, runsB_step (by rw [HN.out]; exact hlt) HRL.out hxx, hq1, List.append_assoc]
          have HLE : Hid (E.length + 5 ≤ 100000) := by
            have h := congrArg List.length HTN.out
            have h2 := HBD.out
            simp only [List.length_append, List.length_cons, colB, List.length_nil] at h
            unfold Hid; omega
          obtain ⟨iq2, hiq2⟩ : ∃ z, i + q = z := ⟨_, rfl⟩
          have FC : wrap64 ((i : Int) + (q : Int)) = (iq2 : Int) := by rw [wrapR _ (by omega) (by omega)]; omega
          have hfi : n ≤ fo + iq2 := by omega
          have hin : iq2 ≤ n := by omega
          have hlt2 : i < iq2 := by omega
          rw [hiq2] at HTN
          have FA : wrap64 ((q : Int) - 1) = q1 := by rw [hq1]; exact wrapR _ (by omega) (by omega)
          have FD : ((q : Int) - 1) % 256 = q1 := by omega
          have FB : IntKind.u8.wrap q1 = q1 := i64_u8 (by omega) (by omega)
          have X0 : IntKind.u8.wrap (x 0) = x 0 := i64_u8 (HOKX.out 0 (by decide)).1 (HOKX.out 0 (by decide)).2
          have X1 : IntKind.u8.wrap (x 1) = x 1 := i64_u8 (HOKX.out 1 (by decide)).1 (HOKX.out 1 (by decide)).2
          have X2 : IntKind.u8.wrap (x 2) = x 2 := i64_u8 (HOKX.out 2 (by decide)).1 (HOKX.out 2 (by decide)).2
          have X3 : IntKind.u8.wrap (x 3) = x 3 := i64_u8 (HOKX.out 3 (by decide)).1 (HOKX.out 3 (by decide)).2
          have b2 := M4.out.box.cell 2
          simp only [List.getElem?_toArray, List.getElem?_cons_zero, List.getElem?_cons_succ] at b2
          obtain ⟨k0, k1, k2, k3⟩ := HAT.out w4 M4.out.below
          have HA : Hid (BytS w W H (.slice (some ⟨d, p, none⟩) n cu) (.slice va vn vc) (E) ((w4.alloc (.cells #[.int .i64 (x 0), .int .i64 (x 1), .int .i64 (x 2), .int .i64 (x 3)] 43)).alloc (.cells #[.int .u8 q1, .int .u8 (x 0), .int .u8 (x 1), .int .u8 (x 2), .int .u8 (x 3)] 5))) := (M4.out.grow ((Below.refl _ _).alloc (Nat.le_refl _) _)).grow ((Below.refl _ _).alloc (Nat.le_refl _) _)
          have HX : Hid (∀ j u, (bytV (q1 :: colB x))[j]? = some u → ((w4.alloc (.cells #[.int .i64 (x 0), .int .i64 (x 1), .int .i64 (x 2), .int .i64 (x 3)] 43)).alloc (.cells #[.int .u8 q1, .int .u8 (x 0), .int .u8 (x 1), .int .u8 (x 2), .int .u8 (x 3)] 5)).cell? ((⟨(w4.alloc (.cells #[.int .i64 (x 0), .int .i64 (x 1), .int .i64 (x 2), .int .i64 (x 3)] 43)).heap.size, 0, none⟩ : Addr).add j) = some u) := news_byt _ _ _ _ rfl
          rw [World.size_alloc] at HX
          have HI2 := Lib.hid hiq2
          clear hrl hq1 hfo hiq2 HST M3
          go_wp2_with (at_builtin; go_loud (refine wpList_append_byts rfl _ _ 58 rfl Try.underlying58 (w.heap.size + 1) _ E rfl HA.out.row ⟨w4.heap.size + 1, 0, none⟩ 5 5 (q1 :: colB x) rfl rfl HX.out HLE.out HA.out.size ?_))
          intro v' w5 ho hg _
          have HB5 := Lib.hid (HA.out.app ho hg)
          obtain ⟨xa, xc, rfl⟩ := ho.shape
          generalize (E ++ (q1 :: colB x)).length = xn at *
          clear ho hg HA HX k0 k1 k2 k3 b2
          go_wp2_with fail
          have hiq2 := HI2.out
          exact ⟨⟨iq2, _, fo, _, hin, hfi, by go_num, rfl, HTN, HB5⟩, by simp [intOf]; omega⟩
    · have hd : decide ((i : Int) < (n : Int)) = false := by simp; omega
      obtain rfl : n = i := by omega
      have hE := HTT.out
      rw [runsB_end (by rw [HN.out]; omega), List.append_nil] at hE
      have HE := Lib.hid hE
      obtain ⟨va, vc, rfl⟩ := hw.out.row.shape
      generalize E.length = vn at *
      clear hE
      go_wp2_with fail
      go_ret
      exact ⟨_, rfl, by rw [← HE.out]; exact owns_base hw.out.row (by omega), hw.out.below⟩
end Go.Proofs.Ytoppmlfibllhlaa

