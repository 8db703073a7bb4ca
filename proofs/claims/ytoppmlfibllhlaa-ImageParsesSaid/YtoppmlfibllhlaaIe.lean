/- Layer 11: the document's Lay. -/
import Derived.Test.YtoppmlfibllhlaaId
import Derived.BigQuiet
namespace Go.Proofs.Ytoppmlfibllhlaa
open Go.RowKit
/-- Does the k-th pixel of rows of W lie under the other image, and where in it. -/
def layIn (W oW oH x y : Int) (k : Nat) : Bool := decide ((k : Int) % W - x ≥ 0) && decide ((k : Int) % W - x < oW) && decide ((k : Int) / W - y ≥ 0) && decide ((k : Int) / W - y < oH)
def layAt (W oW x y : Int) (k : Nat) : Nat := (((k : Int) / W - y) * oW + ((k : Int) % W - x)).toNat
def layPx (W oW oH x y b m : Int) (l ol : List Col) (k : Nat) : Col := if layIn W oW oH x y k then blendC (fadeC (cAt ol (layAt W oW x y k)) b) (cAt l k) m else cAt l k
def layL (W oW oH x y b m : Int) (l ol : List Col) (n : Nat) : List Col := (List.range n).map (layPx W oW oH x y b m l ol)
theorem layL_succ (W oW oH x y b m : Int) (l ol : List Col) (n : Nat) : layL W oW oH x y b m l ol (n + 1) = layL W oW oH x y b m l ol n ++ [layPx W oW oH x y b m l ol n] := by
  unfold layL; rw [List.range_succ, List.map_append]; rfl
theorem layL_len (W oW oH x y b m : Int) (l ol : List Col) (n : Nat) : (layL W oW oH x y b m l ol n).length = n := by simp [layL]
theorem at_prod {px py oW oH : Int} (h0 : 0 ≤ px) (h1 : px < oW) (h2 : 0 ≤ py) (h3 : py < oH) (hw : oW ≤ 256) (hh : oH ≤ 256) : 0 ≤ py * oW ∧ py * oW ≤ 65536 ∧ 0 ≤ py * oW + px ∧ py * oW + px < oW * oH := by
  obtain ⟨a0, _, _, a3⟩ := prod_in (a := py) (A := oH - 1) (b := oW) (B := oW) h2 (by omega) (by omega) (Int.le_refl _)
  obtain ⟨b0, _, _, b3⟩ := prod_in (a := oH) (A := 256) (b := oW) (B := 256) (by omega) hh (by omega) hw
  have e : (oH - 1) * oW = oW * oH - oW := by grind
  have e2 : oH * oW = oW * oH := Int.mul_comm _ _
  rw [e] at a3
  rw [e2] at b0 b3
  generalize py * oW = p at *
  generalize oW * oH = r at *
  omega
theorem AppS.set {w A : World} {base g : Nat} {tI : TypeId} {x y : Value} {Bs : BlkL} {vb vr : Value} {l : List Col} (h : AppS w base g tI x y Bs vb vr l A) {j i : Nat} (hj : base ≤ j) (hne : ∀ k, vr.ownBlock = some k → k ≠ j) (u : Value) : AppS w base g tI x y Bs vb vr l (A.setCell ⟨j, i, none⟩ u) := by
  have ho := h.ok
  exact ⟨h.below.setCell (by show w.heap.size ≤ j; omega) _, by simpa [World.setCell] using h.size, h.lays.other _ _ fun b hb => by have := (ho.2.2 b hb).1; show b.1 ≠ j; omega, h.out.other _ _ (by show g ≠ j; omega),
    owns_keep h.row (S := fun k => k ≠ j) (Keep.setCell _ _ _ (by simp)) hne, ho⟩
theorem own_ne {ik : IntKind} {w : World} {base : Nat} {t : TypeId} {v : Value} {l : List Col} (h : OwnK ik w base t v l) : ∀ k, v.ownBlock = some k → k ≠ w.heap.size := fun k e => by have := (World.ownsRow.lt h k e).2; omega
set_option maxHeartbeats 8000000 in
set_option maxRecDepth 100000 in
theorem ref11Lay_c (W H oW oH x y b m : Int) (u v : Value) (l ol : List Col) (w : World) (row : RowK .i64 w u l) (rov : RowK .i64 w v ol) (hW : 1 ≤ W ∧ W ≤ 256) (hl : l.length ≤ 70000) (hO : 1 ≤ oW ∧ oW ≤ 256 ∧ oH ≤ 256 ∧ (ol.length : Int) = oW * oH) (hx : -1000 ≤ x ∧ x ≤ 1000) (hy : -1000 ≤ y ∧ y ≤ 1000) (hb : 0 ≤ b ∧ b ≤ 255) (hm : 0 ≤ m ∧ m ≤ 4) (hok : ∀ c ∈ l, OkC c) (hoko : ∀ c ∈ ol, OkC c) :
    Calls Try.prog 21 #[.agg #[.int .i64 W, .int .i64 H, u], .agg #[.int .i64 oW, .int .i64 oH, v], .int .i64 x, .int .i64 y, .int .i64 b, .int .i64 m] w fun e w' => ∃ v, e = .returned (.agg #[.int .i64 W, .int .i64 H, v]) ∧ OwnK .i64 w' w.heap.size 43 v (layL W oW oH x y b m l ol l.length) ∧ Below w.heap.size w w' := by
  obtain ⟨au, cu, rfl⟩ := row.shape
  obtain ⟨av, cv, rfl⟩ := rov.shape
  have HROW := Lib.hid row
  have HROV := Lib.hid rov
  have HW := Lib.hid hW
  have HXY := Lib.hid (And.intro hx hy)
  have HBY := Lib.hid hb
  have HMD := Lib.hid hm
  have HOKL := Lib.hid hok
  have HOKO := Lib.hid hoko
  obtain ⟨n, hn⟩ : ∃ n, l.length = n := ⟨_, rfl⟩
  obtain ⟨on, hon⟩ : ∃ n, ol.length = n := ⟨_, rfl⟩
  have HN := Lib.hid hn
  have HON := Lib.hid hon
  rw [hon] at hO HROV
  rw [hon]
  have HOS := Lib.hid hO
  rw [hn] at HROW hl ⊢
  clear row rov hn hon hW hO hx hy hb hm hok hoko
  go_enter Try.func21, Try.ntmps21
  go_wp2_with fail
  go_loopw [14] (fun s14 wr => ∃ (k : Nat) (v : Value), k ≤ n ∧ s14 = .int .i64 (k : Int) ∧ Hid (AppS w (w.heap.size + 1 + 1 + 1 + 1) (w.heap.size + 1 + 1 + 1) 33 (.int .i64 W) (.int .i64 H) [(w.heap.size, 33, #[.int .i64 W, .int .i64 H, .slice au n cu]), (w.heap.size + 1, 33, #[.int .i64 oW, .int .i64 oH, .slice av on cv]), (w.heap.size + 1 + 1, 33, #[.int .i64 0, .int .i64 0, .slice none 0 0])] v v (layL W oW oH x y b m l ol k) wr)) (fun s14 _ => n - (intOf s14).toNat)
  case atStart =>
    refine ⟨0, .slice none 0 0, by omega, rfl, ((((Below.refl _ _).alloc (Nat.le_refl _) _).alloc (by simp) _).alloc (by simp; omega) _).alloc (by simp; omega) _, by simp, ⟨(((Blk.new _ _ _).alloc _).alloc _).alloc _, ((Blk.newAt _ _ _ (by simp)).alloc _).alloc _, (Blk.newAt _ _ _ (by simp)).alloc _, trivial⟩, Blk.newAt _ _ _ (by simp), OwnK.nil _ _ _ _, by omega, by omega, ?_⟩
    intro b hb
    simp at hb
    rcases hb with rfl | rfl | rfl
    · exact ⟨by simp <;> omega, by simp <;> omega⟩
    · exact ⟨by simp <;> omega, by simp <;> omega⟩
    · exact ⟨by simp <;> omega, by simp <;> omega⟩
  case round =>
    obtain ⟨k, v, hk, rfl, hw⟩ := hrel
    have m2 := hw.out.lays.1.cell 2
    simp only [List.getElem?_toArray, List.getElem?_cons_zero, List.getElem?_cons_succ] at m2
    by_cases hlt : k < n
    · have hd : decide ((k : Int) < (n : Int)) = true := by simp; omega
      have hki : (k : Int) < (n : Int) := by omega
      obtain ⟨z, hxx⟩ : ∃ x, cAt l k = x := ⟨_, rfl⟩
      have hx : l[k]? = some z := by rw [← hxx]; exact cAt_some (by rw [HN.out]; exact hlt)
      obtain ⟨d, p, rfl, hdl, hau⟩ := RowK.addr (HROW.out) (by rw [HN.out]; omega)
      have HOKZ := Lib.hid (HOKL.out z (List.mem_of_getElem? hx))
      have HAT : Hid (∀ A, Below w.heap.size w A → ColAt .i64 A d (p + k * 4) z) := fun A hA => (hau k z hx).on hA hdl
      have HTK := Lib.hid (layL_succ W oW oH x y b m l ol k)
      have HLL : Hid ((layL W oW oH x y b m l ol k).length + 1 ≤ 100000) := by unfold Hid; rw [layL_len]; omega
      obtain ⟨r1, r2, r3, r4, r5, r6⟩ := rem_quo (k := k) HW.out.1
      obtain ⟨X, hX⟩ : ∃ X, (k : Int) % W = X := ⟨_, rfl⟩
      obtain ⟨Y, hY⟩ : ∃ Y, (k : Int) / W = Y := ⟨_, rfl⟩
      obtain ⟨px, hpx⟩ : ∃ q, X - x = q := ⟨_, rfl⟩
      obtain ⟨py, hpy⟩ : ∃ q, Y - y = q := ⟨_, rfl⟩
      have HPX0 : Hid (layIn W oW oH x y k = false → layPx W oW oH x y b m l ol k = z) := fun h => by unfold layPx; rw [h, hxx]; rfl
      have HPX1 : Hid (layIn W oW oH x y k = true → ∀ (q : Nat) (r : Col), (q : Int) = py * oW + px → cAt ol q = r → layPx W oW oH x y b m l ol k = blendC (fadeC r b) z m) := fun h q r hq hr => by
        have e : layAt W oW x y k = q := by unfold layAt; rw [hX, hY, hpx, hpy, ← hq]; simp
        unfold layPx; rw [h, hxx, e, hr]; rfl
      have HIN : Hid (layIn W oW oH x y k = (decide (px ≥ 0) && decide (px < oW) && decide (py ≥ 0) && decide (py < oH))) := by unfold Hid layIn; rw [hX, hY, hpx, hpy]
      rw [hX] at r1 r3 r4
      rw [hY] at r2 r5 r6
      have HRQ : Hid ((k : Int).tmod W = X ∧ (k : Int).tdiv W = Y ∧ (W == 0) = false ∧ ¬ W = 0 ∧ wrap64 Y = Y ∧ IntKind.i64.wrap Y = Y ∧ wrap64 (X - x) = px ∧ wrap64 (Y - y) = py) := by
        have h1 := HW.out
        have h2 := HXY.out
        exact ⟨r1, r2, by simp; omega, by omega, wrapR _ (by omega) (by omega), by rw [wrap_is]; exact wrapR _ (by omega) (by omega), by rw [hpx]; exact wrapR _ (by omega) (by omega), by rw [hpy]; exact wrapR _ (by omega) (by omega)⟩
      obtain ⟨va, vc, rfl⟩ := hw.out.row.shape
      obtain ⟨L, hL⟩ : ∃ L, layL W oW oH x y b m l ol k = L := ⟨_, rfl⟩
      rw [hL] at hw HTK HLL
      generalize L.length = vn at hw
      have HST : Hid (∀ A, Below wr.heap.size wr A → AppS w (w.heap.size + 1 + 1 + 1 + 1) (w.heap.size + 1 + 1 + 1) 33 (.int .i64 W) (.int .i64 H) [(w.heap.size, 33, #[.int .i64 W, .int .i64 H, .slice (some ⟨d, p, none⟩) n cu]), (w.heap.size + 1, 33, #[.int .i64 oW, .int .i64 oH, .slice av on cv]), (w.heap.size + 1 + 1, 33, #[.int .i64 0, .int .i64 0, .slice none 0 0])] (.slice va vn vc) (.slice va vn vc) L A) := fun A hA => hw.out.grow hA
      have hpb : -2000 ≤ px ∧ px ≤ 2000 := by have := HXY.out; have := HW.out; omega
      have hpc : -2000 ≤ py ∧ py ≤ 80000 := by have := HXY.out; omega
      have HPB := Lib.hid (And.intro hpb hpc)
      clear hx hxx hau hdl hL r1 r2 r3 r4 r5 r6 hX hY hpx hpy hpb hpc
      go_wp2_with fail
      refine wp_region_quiet (C := Out wr) (by kernel_rfl) (by kernel_rfl) ⟨rfl, rfl, rfl, Nat.le_refl _, fun _ _ => rfl⟩ ?_
      refine BigFrame.wpQuiet_want rfl (fun K hK => ?_)
      refine quiet_val (.int .i64 (k : Int)) (fun w' hw' => by go_simp) (hK _ ?_)
      clear hK K
      simp only [Act.put, List.setIfInBounds_toArray, List.set_cons_zero, List.set_cons_succ]
      refine BigFrame.wpQuiet_want rfl (fun K hK => ?_)
      refine quiet_val (.pointer (some ⟨w.heap.size, 0, none⟩)) (fun w' hw' => by go_simp) (hK _ ?_)
      clear hK K
      simp only [Act.put, List.setIfInBounds_toArray, List.set_cons_zero, List.set_cons_succ]
      refine BigFrame.wpQuiet_want rfl (fun K hK => ?_)
      refine quiet_val (.int .i64 W) (fun w' hw' => by have c0 : w'.cell? ⟨w.heap.size, 0, none⟩ = some (.int .i64 W) := (HST.out w' hw').lays.1.cell 0; go_simp) (hK _ ?_)
      clear hK K
      simp only [Act.put, List.setIfInBounds_toArray, List.set_cons_zero, List.set_cons_succ]
      refine BigFrame.wpQuiet_want rfl (fun K hK => ?_)
      refine quiet_val (.int .i64 X) (fun w' hw' => by obtain ⟨e1, e2, e3, e4, e5, e6, e7, e8⟩ := HRQ.out; have e9 := (wrap_is _).trans e7; have e10 := (wrap_is _).trans e8; go_simp) (hK _ ?_)
      clear hK K
      simp only [Act.put, List.setIfInBounds_toArray, List.set_cons_zero, List.set_cons_succ]
      refine BigFrame.wpQuiet_want rfl (fun K hK => ?_)
      refine quiet_val (.int .i64 x) (fun w' hw' => by go_simp) (hK _ ?_)
      clear hK K
      simp only [Act.put, List.setIfInBounds_toArray, List.set_cons_zero, List.set_cons_succ]
      refine BigFrame.wpQuiet_want rfl (fun K hK => ?_)
      refine quiet_val (.int .i64 px) (fun w' hw' => by obtain ⟨e1, e2, e3, e4, e5, e6, e7, e8⟩ := HRQ.out; have e9 := (wrap_is _).trans e7; have e10 := (wrap_is _).trans e8; go_simp) (hK _ ?_)
      clear hK K
      simp only [Act.put, List.setIfInBounds_toArray, List.set_cons_zero, List.set_cons_succ]
      refine BigFrame.wpQuiet_want rfl (fun K hK => ?_)
      refine quiet_val (.int .i64 (k : Int)) (fun w' hw' => by go_simp) (hK _ ?_)
      clear hK K
      simp only [Act.put, List.setIfInBounds_toArray, List.set_cons_zero, List.set_cons_succ]
      refine BigFrame.wpQuiet_want rfl (fun K hK => ?_)
      refine quiet_val (.pointer (some ⟨w.heap.size, 0, none⟩)) (fun w' hw' => by go_simp) (hK _ ?_)
      clear hK K
      simp only [Act.put, List.setIfInBounds_toArray, List.set_cons_zero, List.set_cons_succ]
      refine BigFrame.wpQuiet_want rfl (fun K hK => ?_)
      refine quiet_val (.int .i64 W) (fun w' hw' => by have c0 : w'.cell? ⟨w.heap.size, 0, none⟩ = some (.int .i64 W) := (HST.out w' hw').lays.1.cell 0; go_simp) (hK _ ?_)
      clear hK K
      simp only [Act.put, List.setIfInBounds_toArray, List.set_cons_zero, List.set_cons_succ]
      refine BigFrame.wpQuiet_want rfl (fun K hK => ?_)
      refine quiet_val (.int .i64 Y) (fun w' hw' => by obtain ⟨e1, e2, e3, e4, e5, e6, e7, e8⟩ := HRQ.out; have e9 := (wrap_is _).trans e7; have e10 := (wrap_is _).trans e8; go_simp) (hK _ ?_)
      clear hK K
      simp only [Act.put, List.setIfInBounds_toArray, List.set_cons_zero, List.set_cons_succ]
      refine BigFrame.wpQuiet_want rfl (fun K hK => ?_)
      refine quiet_val (.int .i64 y) (fun w' hw' => by go_simp) (hK _ ?_)
      clear hK K
      simp only [Act.put, List.setIfInBounds_toArray, List.set_cons_zero, List.set_cons_succ]
      refine BigFrame.wpQuiet_want rfl (fun K hK => ?_)
      refine quiet_val (.int .i64 py) (fun w' hw' => by obtain ⟨e1, e2, e3, e4, e5, e6, e7, e8⟩ := HRQ.out; have e9 := (wrap_is _).trans e7; have e10 := (wrap_is _).trans e8; go_simp) (hK _ ?_)
      clear hK K
      simp only [Act.put, List.setIfInBounds_toArray, List.set_cons_zero, List.set_cons_succ]
      refine BigFrame.wpQuiet_want rfl (fun K hK => ?_)
      refine quiet_val (.int .i64 px) (fun w' hw' => by go_simp) (hK _ ?_)
      clear hK K
      simp only [Act.put, List.setIfInBounds_toArray, List.set_cons_zero, List.set_cons_succ]
      refine BigFrame.wpQuiet_want rfl (fun K hK => ?_)
      refine quiet_val (.int .i64 py) (fun w' hw' => by go_simp) (hK _ ?_)
      clear hK K
      simp only [Act.put, List.setIfInBounds_toArray, List.set_cons_zero, List.set_cons_succ]
      refine wpQuiet_nil ?_
      intro w2 hb
      have M2 := Lib.hid (HST.out w2 hb)
      clear hb HST hw m2
      have m2 := M2.out.lays.1.cell 2
      have o0 := M2.out.lays.2.1.cell 0
      have o1 := M2.out.lays.2.1.cell 1
      simp only [List.getElem?_toArray, List.getElem?_cons_zero, List.getElem?_cons_succ] at m2 o0 o1
      obtain ⟨c0, c1, c2, c3⟩ := HAT.out w2 M2.out.below
      have lm := M2.out.lays.1.lt
      have lo := M2.out.lays.2.1.lt
      by_cases n0 : px ≥ 0
      · by_cases n1 : px < oW
        · by_cases n2 : py ≥ 0
          · by_cases n3 : py < oH
            · have t0 : decide (px ≥ 0) = true := by simp; omega
              have t1 : decide (px < oW) = true := by simp; omega
              have t2 : decide (py ≥ 0) = true := by simp; omega
              have t3 : decide (py < oH) = true := by simp; omega
              have hsd := HOS.out
              obtain ⟨g0, g1, g2, g3⟩ := at_prod n0 n1 n2 n3 hsd.2.1 hsd.2.2.1
              obtain ⟨pp, hpp⟩ : ∃ q, py * oW = q := ⟨_, rfl⟩
              rw [hpp] at g0 g1 g2 g3
              obtain ⟨q, hq⟩ : ∃ q : Nat, (q : Int) = pp + px := ⟨(pp + px).toNat, by omega⟩
              have hqn : q < on := by rw [← hsd.2.2.2] at g3; omega
              obtain ⟨d2, p2, rfl, hd2, hav⟩ := RowK.addr (HROV.out) (by rw [HON.out]; omega)
              obtain ⟨r, hr⟩ : ∃ r, cAt ol q = r := ⟨_, rfl⟩
              have hor : ol[q]? = some r := by rw [← hr]; exact cAt_some (by rw [HON.out]; exact hqn)
              have HAR : Hid (∀ A, Below w.heap.size w A → ColAt .i64 A d2 (p2 + q * 4) r) := fun A hA => (hav q r hor).on hA hd2
              have okR := HOKO.out r (List.mem_of_getElem? hor)
              have okF := fade_ok okR HBY.out
              have HFD := Lib.hid (refFade_c r b okR HBY.out)
              have HBD := Lib.hid (refBlend_c (fadeC r b) z m okF HOKZ.out HMD.out)
              have HPX : Hid (layPx W oW oH x y b m l ol k = blendC (fadeC r b) z m) := HPX1.out (by rw [HIN.out, t0, t1, t2, t3]; rfl) q r (by rw [← hpp] at hq; exact hq) hr
              have E1 : Hid (IntKind.i64.wrap (py * oW) = pp) := by unfold Hid; rw [hpp, wrap_is]; exact wrapR _ (by omega) (by omega)
              have E2 : Hid (IntKind.i64.wrap (pp + px) = (q : Int)) := by unfold Hid; rw [← hq, wrap_is]; exact wrapR _ (by omega) (by omega)
              have hqi : (q : Int) < (on : Int) := by omega
              generalize blendC (fadeC r b) z m = zz at *
              generalize fadeC r b = fr at *
              clear HPX0 HPX1 HIN n0 n1 n2 n3 hsd g0 g1 g2 g3 hpp hq hqn hd2 hav hr hor okR okF
              go_upto_if 64 with fail
              obtain ⟨w3, hw3⟩ : ∃ W', w2.alloc (.cells #[.int .i64 (z 0), .int .i64 (z 1), .int .i64 (z 2), .int .i64 (z 3)] 43) = W' := ⟨_, rfl⟩
              have M3 : Hid (AppS w (w.heap.size + 1 + 1 + 1 + 1) (w.heap.size + 1 + 1 + 1) 33 (.int .i64 W) (.int .i64 H) [(w.heap.size, 33, #[.int .i64 W, .int .i64 H, .slice (some ⟨d, p, none⟩) n cu]), (w.heap.size + 1, 33, #[.int .i64 oW, .int .i64 oH, .slice (some ⟨d2, p2, none⟩) on cv]), (w.heap.size + 1 + 1, 33, #[.int .i64 0, .int .i64 0, .slice none 0 0])] (.slice va vn vc) (.slice va vn vc) L w3) := by
                rw [← hw3]
                exact M2.out.grow ((Below.refl _ _).alloc (Nat.le_refl _) _)
              have HG : Hid (Blk w3 w2.heap.size 43 (c64 z)) := by
                rw [← hw3]
                exact Blk.new _ _ _
              have HNE := Lib.hid (own_ne M2.out.row)
              have HG17 := Lib.hid M2.out.size
              rw [hw3]
              clear hw3 M2 m2 lm lo c0 c1 c2 c3 o0 o1
              generalize w2.heap.size = g17 at *
              go_wp2_with fail
              refine wp_region_put (by kernel_rfl) (by kernel_rfl) (by kernel_rfl) (fun b' vs w' => (b' 0 = true → vs 0 = .pointer (some ⟨w.heap.size + 1, 2, none⟩)) ∧ (b' 1 = true → vs 1 = .slice (some ⟨d2, p2, none⟩) on cv) ∧ (b' 2 = true → vs 2 = .int .i64 py) ∧ (b' 3 = true → vs 3 = .pointer (some ⟨w.heap.size + 1, 0, none⟩)) ∧ (b' 4 = true → vs 4 = .int .i64 oW) ∧ (b' 5 = true → vs 5 = .int .i64 pp) ∧ (b' 6 = true → vs 6 = .int .i64 px) ∧ (b' 7 = true → vs 7 = .int .i64 (q : Int)) ∧ (b' 8 = true → vs 8 = .pointer (some ⟨d2, p2 + q * 4, none⟩)) ∧ (b' 9 = true → vs 9 = .agg #[.int .i64 (r 0), .int .i64 (r 1), .int .i64 (r 2), .int .i64 (r 3)]) ∧ (b' 10 = true → vs 10 = .int .i64 b) ∧ (b' 11 = true → vs 11 = .agg #[.int .i64 (fr 0), .int .i64 (fr 1), .int .i64 (fr 2), .int .i64 (fr 3)]) ∧ (b' 12 = true → vs 12 = .agg #[.int .i64 (z 0), .int .i64 (z 1), .int .i64 (z 2), .int .i64 (z 3)]) ∧ (b' 13 = true → vs 13 = .int .i64 m) ∧ (b' 14 = true → vs 14 = .agg #[.int .i64 (zz 0), .int .i64 (zz 1), .int .i64 (zz 2), .int .i64 (zz 3)]) ∧ (b' 15 = false → Hid (Below w.heap.size w w' ∧ w.heap.size ≤ w'.heap.size)) ∧ (b' 15 = false → Hid (AppS w (w.heap.size + 1 + 1 + 1 + 1) (w.heap.size + 1 + 1 + 1) 33 (.int .i64 W) (.int .i64 H) [(w.heap.size, 33, #[.int .i64 W, .int .i64 H, .slice (some ⟨d, p, none⟩) n cu]), (w.heap.size + 1, 33, #[.int .i64 oW, .int .i64 oH, .slice (some ⟨d2, p2, none⟩) on cv]), (w.heap.size + 1 + 1, 33, #[.int .i64 0, .int .i64 0, .slice none 0 0])] (.slice va vn vc) (.slice va vn vc) L w' ∧ Blk w' g17 43 (c64 z))) ∧ (b' 15 = true → Hid (AppS w (w.heap.size + 1 + 1 + 1 + 1) (w.heap.size + 1 + 1 + 1) 33 (.int .i64 W) (.int .i64 H) [(w.heap.size, 33, #[.int .i64 W, .int .i64 H, .slice (some ⟨d, p, none⟩) n cu]), (w.heap.size + 1, 33, #[.int .i64 oW, .int .i64 oH, .slice (some ⟨d2, p2, none⟩) on cv]), (w.heap.size + 1 + 1, 33, #[.int .i64 0, .int .i64 0, .slice none 0 0])] (.slice va vn vc) (.slice va vn vc) L w' ∧ Blk w' g17 43 (c64 zz))) ∧ (b' 14 = true → b' 11 = true) ∧ (b' 11 = true → b' 9 = true) ∧ (b' 9 = true → b' 8 = true) ∧ (b' 8 = true → b' 1 = true) ∧ (b' 8 = true → b' 7 = true) ∧ (b' 7 = true → b' 5 = true) ∧ (b' 5 = true → b' 4 = true) ∧ (b' 14 = true → b' 12 = true) ∧ (b' 15 = true → b' 1 = true) ∧ (b' 15 = true → b' 4 = true) ∧ (b' 15 = true → b' 9 = true) ∧ (b' 15 = true → b' 11 = true) ∧ (b' 15 = true → b' 12 = true) ∧ (b' 15 = true → b' 14 = true)) ?_ ?_ ?_
              · intro vs
                exact ⟨fun h => Bool.noConfusion h, fun h => Bool.noConfusion h, fun h => Bool.noConfusion h, fun h => Bool.noConfusion h, fun h => Bool.noConfusion h, fun h => Bool.noConfusion h, fun h => Bool.noConfusion h, fun h => Bool.noConfusion h, fun h => Bool.noConfusion h, fun h => Bool.noConfusion h, fun h => Bool.noConfusion h, fun h => Bool.noConfusion h, fun h => Bool.noConfusion h, fun h => Bool.noConfusion h, fun h => Bool.noConfusion h, fun _ => Lib.hid ⟨below_drewN M3.out.below 1, M3.out.below.size⟩, fun _ => Lib.hid ⟨M3.out.grow ⟨rfl, rfl, rfl, Nat.le_refl _, fun _ _ => rfl⟩, HG.out.grow ⟨rfl, rfl, rfl, Nat.le_refl _, fun _ _ => rfl⟩⟩, fun h => Bool.noConfusion h, fun h => Bool.noConfusion h, fun h => Bool.noConfusion h, fun h => Bool.noConfusion h, fun h => Bool.noConfusion h, fun h => Bool.noConfusion h, fun h => Bool.noConfusion h, fun h => Bool.noConfusion h, fun h => Bool.noConfusion h, fun h => Bool.noConfusion h, fun h => Bool.noConfusion h, fun h => Bool.noConfusion h, fun h => Bool.noConfusion h, fun h => Bool.noConfusion h, fun h => Bool.noConfusion h⟩
              · rintro b' vs w' i op hi hun hall ⟨h0, h1, h2, h3, h4, h5, h6, h7, h8, h9, h10, h11, h12, h13, h14, hB, hF, hG, hE14_11, hE11_9, hE9_8, hE8_1, hE8_7, hE7_5, hE5_4, hE14_12, hW1, hW4, hW9, hW11, hW12, hW14⟩
                have hil : i < 16 := (List.getElem?_eq_some_iff.1 hi).1
                rcases i with _ | _ | _ | _ | _ | _ | _ | _ | _ | _ | _ | _ | _ | _ | _ | _ | i
                · obtain rfl := Option.some.inj hi
                  clear hi hil
                  refine wpOp_step rfl (fun K hK => ?_)
                  have HKK := Lib.hid hK; clear hK
                  simp only [putAll, Act.put, List.setIfInBounds_toArray, List.set_cons_zero, List.set_cons_succ]
                  go_simp
                  exact HKK.out _ _ ⟨_, by simp only [putAll, Act.put, List.setIfInBounds_toArray, List.set_cons_zero, List.set_cons_succ] <;> rfl, fun _ => rfl, h1, h2, h3, h4, h5, h6, h7, h8, h9, h10, h11, h12, h13, h14, hB, hF, hG, hE14_11, hE11_9, hE9_8, hE8_1, hE8_7, hE7_5, hE5_4, hE14_12, hW1, hW4, hW9, hW11, hW12, hW14⟩
                · obtain rfl := Option.some.inj hi
                  clear hi hil
                  have hap : b' 15 = false := by
                    cases hz : b' 15 with
                    | false => rfl
                    | true => exact absurd (hW1 hz) (by rw [hun]; decide)
                  have d0 := h0 (hall ⟨0, .data⟩ (by simp) rfl)
                  have c2 : w'.cell? ⟨w.heap.size + 1, 2, none⟩ = some (.slice (some ⟨d2, p2, none⟩) on cv) := (hF hap).out.1.lays.2.1.cell 2
                  refine wpOp_step rfl (fun K hK => ?_)
                  have HKK := Lib.hid hK; clear hK
                  simp only [putAll, Act.put, List.setIfInBounds_toArray, List.set_cons_zero, List.set_cons_succ]
                  go_simp
                  exact HKK.out _ _ ⟨_, by simp only [putAll, Act.put, List.setIfInBounds_toArray, List.set_cons_zero, List.set_cons_succ, d0] <;> rfl, h0, fun _ => rfl, h2, h3, h4, h5, h6, h7, h8, h9, h10, h11, h12, h13, h14, hB, hF, hG, hE14_11, hE11_9, hE9_8, fun _ => rfl, hE8_7, hE7_5, hE5_4, hE14_12, fun _ => rfl, hW4, hW9, hW11, hW12, hW14⟩
                · obtain rfl := Option.some.inj hi
                  clear hi hil
                  refine wpOp_step rfl (fun K hK => ?_)
                  have HKK := Lib.hid hK; clear hK
                  simp only [putAll, Act.put, List.setIfInBounds_toArray, List.set_cons_zero, List.set_cons_succ]
                  go_simp
                  exact HKK.out _ _ ⟨_, by simp only [putAll, Act.put, List.setIfInBounds_toArray, List.set_cons_zero, List.set_cons_succ] <;> rfl, h0, h1, fun _ => rfl, h3, h4, h5, h6, h7, h8, h9, h10, h11, h12, h13, h14, hB, hF, hG, hE14_11, hE11_9, hE9_8, hE8_1, hE8_7, hE7_5, hE5_4, hE14_12, hW1, hW4, hW9, hW11, hW12, hW14⟩
                · obtain rfl := Option.some.inj hi
                  clear hi hil
                  refine wpOp_step rfl (fun K hK => ?_)
                  have HKK := Lib.hid hK; clear hK
                  simp only [putAll, Act.put, List.setIfInBounds_toArray, List.set_cons_zero, List.set_cons_succ]
                  go_simp
                  exact HKK.out _ _ ⟨_, by simp only [putAll, Act.put, List.setIfInBounds_toArray, List.set_cons_zero, List.set_cons_succ] <;> rfl, h0, h1, h2, fun _ => rfl, h4, h5, h6, h7, h8, h9, h10, h11, h12, h13, h14, hB, hF, hG, hE14_11, hE11_9, hE9_8, hE8_1, hE8_7, hE7_5, hE5_4, hE14_12, hW1, hW4, hW9, hW11, hW12, hW14⟩
                · obtain rfl := Option.some.inj hi
                  clear hi hil
                  have hap : b' 15 = false := by
                    cases hz : b' 15 with
                    | false => rfl
                    | true => exact absurd (hW4 hz) (by rw [hun]; decide)
                  have d3 := h3 (hall ⟨3, .data⟩ (by simp) rfl)
                  have c0 : w'.cell? ⟨w.heap.size + 1, 0, none⟩ = some (.int .i64 oW) := (hF hap).out.1.lays.2.1.cell 0
                  refine wpOp_step rfl (fun K hK => ?_)
                  have HKK := Lib.hid hK; clear hK
                  simp only [putAll, Act.put, List.setIfInBounds_toArray, List.set_cons_zero, List.set_cons_succ]
                  go_simp
                  exact HKK.out _ _ ⟨_, by simp only [putAll, Act.put, List.setIfInBounds_toArray, List.set_cons_zero, List.set_cons_succ, d3] <;> rfl, h0, h1, h2, h3, fun _ => rfl, h5, h6, h7, h8, h9, h10, h11, h12, h13, h14, hB, hF, hG, hE14_11, hE11_9, hE9_8, hE8_1, hE8_7, hE7_5, fun _ => rfl, hE14_12, hW1, fun _ => rfl, hW9, hW11, hW12, hW14⟩
                · obtain rfl := Option.some.inj hi
                  clear hi hil
                  have d2 := h2 (hall ⟨2, .data⟩ (by simp) rfl)
                  have d4 := h4 (hall ⟨4, .data⟩ (by simp) rfl)
                  refine wpOp_step rfl (fun K hK => ?_)
                  have HKK := Lib.hid hK; clear hK
                  simp only [putAll, Act.put, List.setIfInBounds_toArray, List.set_cons_zero, List.set_cons_succ]
                  go_simp
                  exact HKK.out _ _ ⟨_, by simp only [putAll, Act.put, List.setIfInBounds_toArray, List.set_cons_zero, List.set_cons_succ, d2, d4, E1.out] <;> rfl, h0, h1, h2, h3, h4, fun _ => rfl, h6, h7, h8, h9, h10, h11, h12, h13, h14, hB, hF, hG, hE14_11, hE11_9, hE9_8, hE8_1, hE8_7, fun _ => rfl, fun _ => hall ⟨4, .data⟩ (by simp) rfl, hE14_12, hW1, hW4, hW9, hW11, hW12, hW14⟩
                · obtain rfl := Option.some.inj hi
                  clear hi hil
                  refine wpOp_step rfl (fun K hK => ?_)
                  have HKK := Lib.hid hK; clear hK
                  simp only [putAll, Act.put, List.setIfInBounds_toArray, List.set_cons_zero, List.set_cons_succ]
                  go_simp
                  exact HKK.out _ _ ⟨_, by simp only [putAll, Act.put, List.setIfInBounds_toArray, List.set_cons_zero, List.set_cons_succ] <;> rfl, h0, h1, h2, h3, h4, h5, fun _ => rfl, h7, h8, h9, h10, h11, h12, h13, h14, hB, hF, hG, hE14_11, hE11_9, hE9_8, hE8_1, hE8_7, hE7_5, hE5_4, hE14_12, hW1, hW4, hW9, hW11, hW12, hW14⟩
                · obtain rfl := Option.some.inj hi
                  clear hi hil
                  have d5 := h5 (hall ⟨5, .data⟩ (by simp) rfl)
                  have d6 := h6 (hall ⟨6, .data⟩ (by simp) rfl)
                  refine wpOp_step rfl (fun K hK => ?_)
                  have HKK := Lib.hid hK; clear hK
                  simp only [putAll, Act.put, List.setIfInBounds_toArray, List.set_cons_zero, List.set_cons_succ]
                  go_simp
                  exact HKK.out _ _ ⟨_, by simp only [putAll, Act.put, List.setIfInBounds_toArray, List.set_cons_zero, List.set_cons_succ, d5, d6, E2.out] <;> rfl, h0, h1, h2, h3, h4, h5, h6, fun _ => rfl, h8, h9, h10, h11, h12, h13, h14, hB, hF, hG, hE14_11, hE11_9, hE9_8, hE8_1, fun _ => rfl, fun _ => hall ⟨5, .data⟩ (by simp) rfl, hE5_4, hE14_12, hW1, hW4, hW9, hW11, hW12, hW14⟩
                · obtain rfl := Option.some.inj hi
                  clear hi hil
                  have d1 := h1 (hall ⟨1, .data⟩ (by simp) rfl)
                  have d7 := h7 (hall ⟨7, .data⟩ (by simp) rfl)
                  refine wpOp_step rfl (fun K hK => ?_)
                  have HKK := Lib.hid hK; clear hK
                  simp only [putAll, Act.put, List.setIfInBounds_toArray, List.set_cons_zero, List.set_cons_succ]
                  go_simp
                  exact HKK.out _ _ ⟨_, by simp only [putAll, Act.put, List.setIfInBounds_toArray, List.set_cons_zero, List.set_cons_succ, d1, d7] <;> rfl, h0, h1, h2, h3, h4, h5, h6, h7, fun _ => rfl, h9, h10, h11, h12, h13, h14, hB, hF, hG, hE14_11, hE11_9, fun _ => rfl, fun _ => hall ⟨1, .data⟩ (by simp) rfl, fun _ => hall ⟨7, .data⟩ (by simp) rfl, hE7_5, hE5_4, hE14_12, hW1, hW4, hW9, hW11, hW12, hW14⟩
                · obtain rfl := Option.some.inj hi
                  clear hi hil
                  have hap : b' 15 = false := by
                    cases hz : b' 15 with
                    | false => rfl
                    | true => exact absurd (hW9 hz) (by rw [hun]; decide)
                  have d8 := h8 (hall ⟨8, .data⟩ (by simp) rfl)
                  obtain ⟨c0, c1, c2, c3⟩ := HAR.out w' (hF hap).out.1.below
                  refine wpOp_step rfl (fun K hK => ?_)
                  have HKK := Lib.hid hK; clear hK
                  simp only [putAll, Act.put, List.setIfInBounds_toArray, List.set_cons_zero, List.set_cons_succ]
                  go_simp
                  exact HKK.out _ _ ⟨_, by simp only [putAll, Act.put, List.setIfInBounds_toArray, List.set_cons_zero, List.set_cons_succ, d8] <;> rfl, h0, h1, h2, h3, h4, h5, h6, h7, h8, fun _ => rfl, h10, h11, h12, h13, h14, hB, hF, hG, hE14_11, fun _ => rfl, fun _ => hall ⟨8, .data⟩ (by simp) rfl, hE8_1, hE8_7, hE7_5, hE5_4, hE14_12, hW1, hW4, fun _ => rfl, hW11, hW12, hW14⟩
                · obtain rfl := Option.some.inj hi
                  clear hi hil
                  refine wpOp_step rfl (fun K hK => ?_)
                  have HKK := Lib.hid hK; clear hK
                  simp only [putAll, Act.put, List.setIfInBounds_toArray, List.set_cons_zero, List.set_cons_succ]
                  go_simp
                  exact HKK.out _ _ ⟨_, by simp only [putAll, Act.put, List.setIfInBounds_toArray, List.set_cons_zero, List.set_cons_succ] <;> rfl, h0, h1, h2, h3, h4, h5, h6, h7, h8, h9, fun _ => rfl, h11, h12, h13, h14, hB, hF, hG, hE14_11, hE11_9, hE9_8, hE8_1, hE8_7, hE7_5, hE5_4, hE14_12, hW1, hW4, hW9, hW11, hW12, hW14⟩
                · obtain rfl := Option.some.inj hi
                  clear hi hil
                  have hap : b' 15 = false := by
                    cases hz : b' 15 with
                    | false => rfl
                    | true => exact absurd (hW11 hz) (by rw [hun]; decide)
                  have d9 := h9 (hall ⟨9, .data⟩ (by simp) rfl)
                  have d10 := h10 (hall ⟨10, .data⟩ (by simp) rfl)
                  refine wpOp_step rfl (fun K hK => ?_)
                  have HKK := Lib.hid hK; clear hK
                  simp only [putAll, Act.put, List.setIfInBounds_toArray, List.set_cons_zero, List.set_cons_succ]
                  go_simp
                  refine (HFD.out _).mono ?_
                  rintro e w2 ⟨rfl, hb2⟩
                  exact HKK.out _ _ ⟨_, by simp only [putAll, Act.put, List.setIfInBounds_toArray, List.set_cons_zero, List.set_cons_succ, d9, d10] <;> rfl, h0, h1, h2, h3, h4, h5, h6, h7, h8, h9, h10, fun _ => rfl, h12, h13, h14, fun ha => Lib.hid ⟨(hB ha).out.1.trans (hb2.mono (hB ha).out.2), Nat.le_trans (hB ha).out.2 hb2.size⟩, fun ha => Lib.hid (⟨(hF ha).out.1.grow hb2, (hF ha).out.2.grow hb2⟩), fun h => absurd (show b' 15 = true from h) (by rw [hap]; decide), fun _ => rfl, fun _ => hall ⟨9, .data⟩ (by simp) rfl, hE9_8, hE8_1, hE8_7, hE7_5, hE5_4, hE14_12, hW1, hW4, hW9, fun _ => rfl, hW12, hW14⟩
                · obtain rfl := Option.some.inj hi
                  clear hi hil
                  have hap : b' 15 = false := by
                    cases hz : b' 15 with
                    | false => rfl
                    | true => exact absurd (hW12 hz) (by rw [hun]; decide)
                  obtain ⟨c0, c1, c2, c3⟩ := (hF hap).out.2.c0
                  refine wpOp_step rfl (fun K hK => ?_)
                  have HKK := Lib.hid hK; clear hK
                  simp only [putAll, Act.put, List.setIfInBounds_toArray, List.set_cons_zero, List.set_cons_succ]
                  go_simp
                  exact HKK.out _ _ ⟨_, by simp only [putAll, Act.put, List.setIfInBounds_toArray, List.set_cons_zero, List.set_cons_succ] <;> rfl, h0, h1, h2, h3, h4, h5, h6, h7, h8, h9, h10, h11, fun _ => rfl, h13, h14, hB, hF, hG, hE14_11, hE11_9, hE9_8, hE8_1, hE8_7, hE7_5, hE5_4, fun _ => rfl, hW1, hW4, hW9, hW11, fun _ => rfl, hW14⟩
                · obtain rfl := Option.some.inj hi
                  clear hi hil
                  refine wpOp_step rfl (fun K hK => ?_)
                  have HKK := Lib.hid hK; clear hK
                  simp only [putAll, Act.put, List.setIfInBounds_toArray, List.set_cons_zero, List.set_cons_succ]
                  go_simp
                  exact HKK.out _ _ ⟨_, by simp only [putAll, Act.put, List.setIfInBounds_toArray, List.set_cons_zero, List.set_cons_succ] <;> rfl, h0, h1, h2, h3, h4, h5, h6, h7, h8, h9, h10, h11, h12, fun _ => rfl, h14, hB, hF, hG, hE14_11, hE11_9, hE9_8, hE8_1, hE8_7, hE7_5, hE5_4, hE14_12, hW1, hW4, hW9, hW11, hW12, hW14⟩
                · obtain rfl := Option.some.inj hi
                  clear hi hil
                  have hap : b' 15 = false := by
                    cases hz : b' 15 with
                    | false => rfl
                    | true => exact absurd (hW14 hz) (by rw [hun]; decide)
                  have d11 := h11 (hall ⟨11, .data⟩ (by simp) rfl)
                  have d12 := h12 (hall ⟨12, .data⟩ (by simp) rfl)
                  have d13 := h13 (hall ⟨13, .data⟩ (by simp) rfl)
                  refine wpOp_step rfl (fun K hK => ?_)
                  have HKK := Lib.hid hK; clear hK
                  simp only [putAll, Act.put, List.setIfInBounds_toArray, List.set_cons_zero, List.set_cons_succ]
                  go_simp
                  refine (HBD.out _).mono ?_
                  rintro e w2 ⟨rfl, hb2⟩
                  exact HKK.out _ _ ⟨_, by simp only [putAll, Act.put, List.setIfInBounds_toArray, List.set_cons_zero, List.set_cons_succ, d11, d12, d13] <;> rfl, h0, h1, h2, h3, h4, h5, h6, h7, h8, h9, h10, h11, h12, h13, fun _ => rfl, fun ha => Lib.hid ⟨(hB ha).out.1.trans (hb2.mono (hB ha).out.2), Nat.le_trans (hB ha).out.2 hb2.size⟩, fun ha => Lib.hid (⟨(hF ha).out.1.grow hb2, (hF ha).out.2.grow hb2⟩), fun h => absurd (show b' 15 = true from h) (by rw [hap]; decide), fun _ => hall ⟨11, .data⟩ (by simp) rfl, hE11_9, hE9_8, hE8_1, hE8_7, hE7_5, hE5_4, fun _ => hall ⟨12, .data⟩ (by simp) rfl, hW1, hW4, hW9, hW11, hW12, fun _ => rfl⟩
                · obtain rfl := Option.some.inj hi
                  clear hi hil
                  have hap : b' 15 = false := hun
                  have d14 := h14 (hall ⟨14, .data⟩ (by simp) rfl)
                  have k4 := (hF hap).out.2
                  obtain ⟨c0, c1, c2, c3⟩ := k4.c0
                  have f0 := k4.free 0
                  have f1 := k4.free 1
                  have f2 := k4.free 2
                  have f3 := k4.free 3
                  have lg := k4.lt
                  clear k4
                  refine wpOp_step rfl (fun K hK => ?_)
                  have HKK := Lib.hid hK; clear hK
                  simp only [putAll, Act.put, List.setIfInBounds_toArray, List.set_cons_zero, List.set_cons_succ]
                  go_simp
                  exact HKK.out _ _ ⟨undef, by simp only [putAll, Act.put, List.setIfInBounds_toArray, List.set_cons_zero, List.set_cons_succ, d14] <;> rfl, h0, h1, h2, h3, h4, h5, h6, h7, h8, h9, h10, h11, h12, h13, h14, fun h => Bool.noConfusion h, fun h => Bool.noConfusion h, fun _ => Lib.hid (⟨(((((hF hap).out.1.set HG17.out HNE.out _).set HG17.out HNE.out _).set HG17.out HNE.out _).set HG17.out HNE.out _), (hF hap).out.2.set4 fun i => .int .i64 (zz i)⟩), hE14_11, hE11_9, hE9_8, hE8_1, hE8_7, hE7_5, hE5_4, hE14_12, fun _ => hE8_1 (hE9_8 (hE11_9 (hE14_11 (hall ⟨14, .data⟩ (by simp) rfl)))), fun _ => hE5_4 (hE7_5 (hE8_7 (hE9_8 (hE11_9 (hE14_11 (hall ⟨14, .data⟩ (by simp) rfl)))))), fun _ => hE11_9 (hE14_11 (hall ⟨14, .data⟩ (by simp) rfl)), fun _ => hE14_11 (hall ⟨14, .data⟩ (by simp) rfl), fun _ => hE14_12 (hall ⟨14, .data⟩ (by simp) rfl), fun _ => hall ⟨14, .data⟩ (by simp) rfl⟩
                · omega
              · rintro b' vs w2 hall ⟨h0, h1, h2, h3, h4, h5, h6, h7, h8, h9, h10, h11, h12, h13, h14, hB, hF, hG, hE14_11, hE11_9, hE9_8, hE8_1, hE8_7, hE7_5, hE5_4, hE14_12, hW1, hW4, hW9, hW11, hW12, hW14⟩
                have d0 := h0 (hall 0 (by simp))
                have d1 := h1 (hall 1 (by simp))
                have d2 := h2 (hall 2 (by simp))
                have d3 := h3 (hall 3 (by simp))
                have d4 := h4 (hall 4 (by simp))
                have d5 := h5 (hall 5 (by simp))
                have d6 := h6 (hall 6 (by simp))
                have d7 := h7 (hall 7 (by simp))
                have d8 := h8 (hall 8 (by simp))
                have d9 := h9 (hall 9 (by simp))
                have d10 := h10 (hall 10 (by simp))
                have d11 := h11 (hall 11 (by simp))
                have d12 := h12 (hall 12 (by simp))
                have d13 := h13 (hall 13 (by simp))
                have d14 := h14 (hall 14 (by simp))
                have GG := hG (hall 15 (by simp))
                simp only [putAll, Act.put, List.setIfInBounds_toArray, List.set_cons_zero, List.set_cons_succ, d0, d1, d2, d3, d4, d5, d6, d7, d8, d9, d10, d11, d12, d13, d14]
                clear hall h0 d0 h1 d1 h2 d2 h3 d3 h4 d4 h5 d5 h6 d6 h7 d7 h8 d8 h9 d9 h10 d10 h11 d11 h12 d12 h13 d13 h14 d14 hB hF hG hE14_11 hE11_9 hE9_8 hE8_1 hE8_7 hE7_5 hE5_4 hE14_12 hW1 hW4 hW9 hW11 hW12 hW14
                have M4 := Lib.hid GG.out.1
                have HG := Lib.hid GG.out.2
                clear GG
                have c2 := M4.out.out.cell 2
                simp only [List.getElem?_toArray, List.getElem?_cons_zero, List.getElem?_cons_succ] at c2
                obtain ⟨k0, k1, k2, k3⟩ := Blk.c0 (show Blk w2 g17 43 (c64 zz) from HG.out)
                have HA : Hid (AppS w (w.heap.size + 1 + 1 + 1 + 1) (w.heap.size + 1 + 1 + 1) 33 (.int .i64 W) (.int .i64 H) [(w.heap.size, 33, #[.int .i64 W, .int .i64 H, .slice (some ⟨d, p, none⟩) n cu]), (w.heap.size + 1, 33, #[.int .i64 oW, .int .i64 oH, .slice (some ⟨d2, p2, none⟩) on cv]), (w.heap.size + 1 + 1, 33, #[.int .i64 0, .int .i64 0, .slice none 0 0])] (.slice va vn vc) (.slice va vn vc) L (w2.alloc (.cells #[.int .i64 (zz 0), .int .i64 (zz 1), .int .i64 (zz 2), .int .i64 (zz 3)] 43))) := M4.out.grow ((Below.refl _ _).alloc (Nat.le_refl _) _)
                have HQ : Hid (ColAt .i64 (w2.alloc (.cells #[.int .i64 (zz 0), .int .i64 (zz 1), .int .i64 (zz 2), .int .i64 (zz 3)] 43)) w2.heap.size 0 zz) := ⟨(Blk.new _ _ _).cell 0, (Blk.new _ _ _).cell 1, (Blk.new _ _ _).cell 2, (Blk.new _ _ _).cell 3⟩
                go_wp2_with (at_builtin; refine wpList_app_c64 rfl _ _ 31 43 rfl Try.underlying31 infoC64 (w.heap.size + 1 + 1 + 1 + 1) _ L zz rfl HA.out.row w2.heap.size rfl HQ.out HLL.out HA.out.size ?_)
                intro v' w15 ho hg _
                have HB5 := Lib.hid (HA.out.app ho hg)
                obtain ⟨xa, xc, rfl⟩ := ho.shape
                have HV := Lib.hid HB5.out.store
                generalize (L ++ [zz]).length = xn at *
                have c2 := HB5.out.out.cell 2
                have f2 := HB5.out.out.free 2
                have lg := HB5.out.out.lt
                simp only [List.getElem?_toArray, List.getElem?_cons_zero, List.getElem?_cons_succ] at c2
                clear ho hg HA HQ k0 k1 k2 k3
                go_wp2_with fail
                exact ⟨⟨k + 1, _, by omega, by go_num, by rw [HTK.out, HPX.out]; exact HV.out⟩, by simp [intOf]; omega⟩
            · have t0 : decide (px ≥ 0) = true := by simp; omega
              have t1 : decide (px < oW) = true := by simp; omega
              have t2 : decide (py ≥ 0) = true := by simp; omega
              have t3 : decide (py < oH) = false := by simp; omega
              have HPX : Hid (layPx W oW oH x y b m l ol k = z) := HPX0.out (by rw [HIN.out, t0, t1, t2, t3]; simp)
              clear HPX0 HPX1 HIN n0 n1 n2 n3
              go_upto_if 64 with fail
              obtain ⟨w3, hw3⟩ : ∃ W', w2.alloc (.cells #[.int .i64 (z 0), .int .i64 (z 1), .int .i64 (z 2), .int .i64 (z 3)] 43) = W' := ⟨_, rfl⟩
              have M3 : Hid (AppS w (w.heap.size + 1 + 1 + 1 + 1) (w.heap.size + 1 + 1 + 1) 33 (.int .i64 W) (.int .i64 H) [(w.heap.size, 33, #[.int .i64 W, .int .i64 H, .slice (some ⟨d, p, none⟩) n cu]), (w.heap.size + 1, 33, #[.int .i64 oW, .int .i64 oH, .slice av on cv]), (w.heap.size + 1 + 1, 33, #[.int .i64 0, .int .i64 0, .slice none 0 0])] (.slice va vn vc) (.slice va vn vc) L w3) := by
                rw [← hw3]
                exact M2.out.grow ((Below.refl _ _).alloc (Nat.le_refl _) _)
              have HG : Hid (Blk w3 w2.heap.size 43 (c64 z)) := by
                rw [← hw3]
                exact Blk.new _ _ _
              have HNE := Lib.hid (own_ne M2.out.row)
              have HG17 := Lib.hid M2.out.size
              rw [hw3]
              clear hw3 M2 m2 lm lo c0 c1 c2 c3 o0 o1
              generalize w2.heap.size = g17 at *
              have c2 := M3.out.out.cell 2
              simp only [List.getElem?_toArray, List.getElem?_cons_zero, List.getElem?_cons_succ] at c2
              obtain ⟨k0, k1, k2, k3⟩ := Blk.c0 (show Blk w3 g17 43 (c64 z) from HG.out)
              have HA : Hid (AppS w (w.heap.size + 1 + 1 + 1 + 1) (w.heap.size + 1 + 1 + 1) 33 (.int .i64 W) (.int .i64 H) [(w.heap.size, 33, #[.int .i64 W, .int .i64 H, .slice (some ⟨d, p, none⟩) n cu]), (w.heap.size + 1, 33, #[.int .i64 oW, .int .i64 oH, .slice av on cv]), (w.heap.size + 1 + 1, 33, #[.int .i64 0, .int .i64 0, .slice none 0 0])] (.slice va vn vc) (.slice va vn vc) L (w3.alloc (.cells #[.int .i64 (z 0), .int .i64 (z 1), .int .i64 (z 2), .int .i64 (z 3)] 43))) := M3.out.grow ((Below.refl _ _).alloc (Nat.le_refl _) _)
              have HQ : Hid (ColAt .i64 (w3.alloc (.cells #[.int .i64 (z 0), .int .i64 (z 1), .int .i64 (z 2), .int .i64 (z 3)] 43)) w3.heap.size 0 z) := ⟨(Blk.new _ _ _).cell 0, (Blk.new _ _ _).cell 1, (Blk.new _ _ _).cell 2, (Blk.new _ _ _).cell 3⟩
              go_wp2_with (at_builtin; refine wpList_app_c64 rfl _ _ 31 43 rfl Try.underlying31 infoC64 (w.heap.size + 1 + 1 + 1 + 1) _ L z rfl HA.out.row w3.heap.size rfl HQ.out HLL.out HA.out.size ?_)
              intro v' w15 ho hg _
              have HB5 := Lib.hid (HA.out.app ho hg)
              obtain ⟨xa, xc, rfl⟩ := ho.shape
              have HV := Lib.hid HB5.out.store
              generalize (L ++ [z]).length = xn at *
              have c2 := HB5.out.out.cell 2
              have f2 := HB5.out.out.free 2
              have lg := HB5.out.out.lt
              simp only [List.getElem?_toArray, List.getElem?_cons_zero, List.getElem?_cons_succ] at c2
              clear ho hg HA HQ k0 k1 k2 k3
              go_wp2_with fail
              exact ⟨⟨k + 1, _, by omega, by go_num, by rw [HTK.out, HPX.out]; exact HV.out⟩, by simp [intOf]; omega⟩
          · have t0 : decide (px ≥ 0) = true := by simp; omega
            have t1 : decide (px < oW) = true := by simp; omega
            have t2 : decide (py ≥ 0) = false := by simp; omega
            have HPX : Hid (layPx W oW oH x y b m l ol k = z) := HPX0.out (by rw [HIN.out, t0, t1, t2]; simp)
            clear HPX0 HPX1 HIN n0 n1 n2
            go_upto_if 64 with fail
            obtain ⟨w3, hw3⟩ : ∃ W', w2.alloc (.cells #[.int .i64 (z 0), .int .i64 (z 1), .int .i64 (z 2), .int .i64 (z 3)] 43) = W' := ⟨_, rfl⟩
            have M3 : Hid (AppS w (w.heap.size + 1 + 1 + 1 + 1) (w.heap.size + 1 + 1 + 1) 33 (.int .i64 W) (.int .i64 H) [(w.heap.size, 33, #[.int .i64 W, .int .i64 H, .slice (some ⟨d, p, none⟩) n cu]), (w.heap.size + 1, 33, #[.int .i64 oW, .int .i64 oH, .slice av on cv]), (w.heap.size + 1 + 1, 33, #[.int .i64 0, .int .i64 0, .slice none 0 0])] (.slice va vn vc) (.slice va vn vc) L w3) := by
              rw [← hw3]
              exact M2.out.grow ((Below.refl _ _).alloc (Nat.le_refl _) _)
            have HG : Hid (Blk w3 w2.heap.size 43 (c64 z)) := by
              rw [← hw3]
              exact Blk.new _ _ _
            have HNE := Lib.hid (own_ne M2.out.row)
            have HG17 := Lib.hid M2.out.size
            rw [hw3]
            clear hw3 M2 m2 lm lo c0 c1 c2 c3 o0 o1
            generalize w2.heap.size = g17 at *
            have c2 := M3.out.out.cell 2
            simp only [List.getElem?_toArray, List.getElem?_cons_zero, List.getElem?_cons_succ] at c2
            obtain ⟨k0, k1, k2, k3⟩ := Blk.c0 (show Blk w3 g17 43 (c64 z) from HG.out)
            have HA : Hid (AppS w (w.heap.size + 1 + 1 + 1 + 1) (w.heap.size + 1 + 1 + 1) 33 (.int .i64 W) (.int .i64 H) [(w.heap.size, 33, #[.int .i64 W, .int .i64 H, .slice (some ⟨d, p, none⟩) n cu]), (w.heap.size + 1, 33, #[.int .i64 oW, .int .i64 oH, .slice av on cv]), (w.heap.size + 1 + 1, 33, #[.int .i64 0, .int .i64 0, .slice none 0 0])] (.slice va vn vc) (.slice va vn vc) L (w3.alloc (.cells #[.int .i64 (z 0), .int .i64 (z 1), .int .i64 (z 2), .int .i64 (z 3)] 43))) := M3.out.grow ((Below.refl _ _).alloc (Nat.le_refl _) _)
            have HQ : Hid (ColAt .i64 (w3.alloc (.cells #[.int .i64 (z 0), .int .i64 (z 1), .int .i64 (z 2), .int .i64 (z 3)] 43)) w3.heap.size 0 z) := ⟨(Blk.new _ _ _).cell 0, (Blk.new _ _ _).cell 1, (Blk.new _ _ _).cell 2, (Blk.new _ _ _).cell 3⟩
            go_wp2_with (at_builtin; refine wpList_app_c64 rfl _ _ 31 43 rfl Try.underlying31 infoC64 (w.heap.size + 1 + 1 + 1 + 1) _ L z rfl HA.out.row w3.heap.size rfl HQ.out HLL.out HA.out.size ?_)
            intro v' w15 ho hg _
            have HB5 := Lib.hid (HA.out.app ho hg)
            obtain ⟨xa, xc, rfl⟩ := ho.shape
            have HV := Lib.hid HB5.out.store
            generalize (L ++ [z]).length = xn at *
            have c2 := HB5.out.out.cell 2
            have f2 := HB5.out.out.free 2
            have lg := HB5.out.out.lt
            simp only [List.getElem?_toArray, List.getElem?_cons_zero, List.getElem?_cons_succ] at c2
            clear ho hg HA HQ k0 k1 k2 k3
            go_wp2_with fail
            exact ⟨⟨k + 1, _, by omega, by go_num, by rw [HTK.out, HPX.out]; exact HV.out⟩, by simp [intOf]; omega⟩
        · have t0 : decide (px ≥ 0) = true := by simp; omega
          have t1 : decide (px < oW) = false := by simp; omega
          have HPX : Hid (layPx W oW oH x y b m l ol k = z) := HPX0.out (by rw [HIN.out, t0, t1]; simp)
          clear HPX0 HPX1 HIN n0 n1
          go_upto_if 64 with fail
          obtain ⟨w3, hw3⟩ : ∃ W', w2.alloc (.cells #[.int .i64 (z 0), .int .i64 (z 1), .int .i64 (z 2), .int .i64 (z 3)] 43) = W' := ⟨_, rfl⟩
          have M3 : Hid (AppS w (w.heap.size + 1 + 1 + 1 + 1) (w.heap.size + 1 + 1 + 1) 33 (.int .i64 W) (.int .i64 H) [(w.heap.size, 33, #[.int .i64 W, .int .i64 H, .slice (some ⟨d, p, none⟩) n cu]), (w.heap.size + 1, 33, #[.int .i64 oW, .int .i64 oH, .slice av on cv]), (w.heap.size + 1 + 1, 33, #[.int .i64 0, .int .i64 0, .slice none 0 0])] (.slice va vn vc) (.slice va vn vc) L w3) := by
            rw [← hw3]
            exact M2.out.grow ((Below.refl _ _).alloc (Nat.le_refl _) _)
          have HG : Hid (Blk w3 w2.heap.size 43 (c64 z)) := by
            rw [← hw3]
            exact Blk.new _ _ _
          have HNE := Lib.hid (own_ne M2.out.row)
          have HG17 := Lib.hid M2.out.size
          rw [hw3]
          clear hw3 M2 m2 lm lo c0 c1 c2 c3 o0 o1
          generalize w2.heap.size = g17 at *
          have c2 := M3.out.out.cell 2
          simp only [List.getElem?_toArray, List.getElem?_cons_zero, List.getElem?_cons_succ] at c2
          obtain ⟨k0, k1, k2, k3⟩ := Blk.c0 (show Blk w3 g17 43 (c64 z) from HG.out)
          have HA : Hid (AppS w (w.heap.size + 1 + 1 + 1 + 1) (w.heap.size + 1 + 1 + 1) 33 (.int .i64 W) (.int .i64 H) [(w.heap.size, 33, #[.int .i64 W, .int .i64 H, .slice (some ⟨d, p, none⟩) n cu]), (w.heap.size + 1, 33, #[.int .i64 oW, .int .i64 oH, .slice av on cv]), (w.heap.size + 1 + 1, 33, #[.int .i64 0, .int .i64 0, .slice none 0 0])] (.slice va vn vc) (.slice va vn vc) L (w3.alloc (.cells #[.int .i64 (z 0), .int .i64 (z 1), .int .i64 (z 2), .int .i64 (z 3)] 43))) := M3.out.grow ((Below.refl _ _).alloc (Nat.le_refl _) _)
          have HQ : Hid (ColAt .i64 (w3.alloc (.cells #[.int .i64 (z 0), .int .i64 (z 1), .int .i64 (z 2), .int .i64 (z 3)] 43)) w3.heap.size 0 z) := ⟨(Blk.new _ _ _).cell 0, (Blk.new _ _ _).cell 1, (Blk.new _ _ _).cell 2, (Blk.new _ _ _).cell 3⟩
          go_wp2_with (at_builtin; refine wpList_app_c64 rfl _ _ 31 43 rfl Try.underlying31 infoC64 (w.heap.size + 1 + 1 + 1 + 1) _ L z rfl HA.out.row w3.heap.size rfl HQ.out HLL.out HA.out.size ?_)
          intro v' w15 ho hg _
          have HB5 := Lib.hid (HA.out.app ho hg)
          obtain ⟨xa, xc, rfl⟩ := ho.shape
          have HV := Lib.hid HB5.out.store
          generalize (L ++ [z]).length = xn at *
          have c2 := HB5.out.out.cell 2
          have f2 := HB5.out.out.free 2
          have lg := HB5.out.out.lt
          simp only [List.getElem?_toArray, List.getElem?_cons_zero, List.getElem?_cons_succ] at c2
          clear ho hg HA HQ k0 k1 k2 k3
          go_wp2_with fail
          exact ⟨⟨k + 1, _, by omega, by go_num, by rw [HTK.out, HPX.out]; exact HV.out⟩, by simp [intOf]; omega⟩
      · have t0 : decide (px ≥ 0) = false := by simp; omega
        have HPX : Hid (layPx W oW oH x y b m l ol k = z) := HPX0.out (by rw [HIN.out, t0]; simp)
        clear HPX0 HPX1 HIN n0
        go_upto_if 64 with fail
        obtain ⟨w3, hw3⟩ : ∃ W', w2.alloc (.cells #[.int .i64 (z 0), .int .i64 (z 1), .int .i64 (z 2), .int .i64 (z 3)] 43) = W' := ⟨_, rfl⟩
        have M3 : Hid (AppS w (w.heap.size + 1 + 1 + 1 + 1) (w.heap.size + 1 + 1 + 1) 33 (.int .i64 W) (.int .i64 H) [(w.heap.size, 33, #[.int .i64 W, .int .i64 H, .slice (some ⟨d, p, none⟩) n cu]), (w.heap.size + 1, 33, #[.int .i64 oW, .int .i64 oH, .slice av on cv]), (w.heap.size + 1 + 1, 33, #[.int .i64 0, .int .i64 0, .slice none 0 0])] (.slice va vn vc) (.slice va vn vc) L w3) := by
          rw [← hw3]
          exact M2.out.grow ((Below.refl _ _).alloc (Nat.le_refl _) _)
        have HG : Hid (Blk w3 w2.heap.size 43 (c64 z)) := by
          rw [← hw3]
          exact Blk.new _ _ _
        have HNE := Lib.hid (own_ne M2.out.row)
        have HG17 := Lib.hid M2.out.size
        rw [hw3]
        clear hw3 M2 m2 lm lo c0 c1 c2 c3 o0 o1
        generalize w2.heap.size = g17 at *
        have c2 := M3.out.out.cell 2
        simp only [List.getElem?_toArray, List.getElem?_cons_zero, List.getElem?_cons_succ] at c2
        obtain ⟨k0, k1, k2, k3⟩ := Blk.c0 (show Blk w3 g17 43 (c64 z) from HG.out)
        have HA : Hid (AppS w (w.heap.size + 1 + 1 + 1 + 1) (w.heap.size + 1 + 1 + 1) 33 (.int .i64 W) (.int .i64 H) [(w.heap.size, 33, #[.int .i64 W, .int .i64 H, .slice (some ⟨d, p, none⟩) n cu]), (w.heap.size + 1, 33, #[.int .i64 oW, .int .i64 oH, .slice av on cv]), (w.heap.size + 1 + 1, 33, #[.int .i64 0, .int .i64 0, .slice none 0 0])] (.slice va vn vc) (.slice va vn vc) L (w3.alloc (.cells #[.int .i64 (z 0), .int .i64 (z 1), .int .i64 (z 2), .int .i64 (z 3)] 43))) := M3.out.grow ((Below.refl _ _).alloc (Nat.le_refl _) _)
        have HQ : Hid (ColAt .i64 (w3.alloc (.cells #[.int .i64 (z 0), .int .i64 (z 1), .int .i64 (z 2), .int .i64 (z 3)] 43)) w3.heap.size 0 z) := ⟨(Blk.new _ _ _).cell 0, (Blk.new _ _ _).cell 1, (Blk.new _ _ _).cell 2, (Blk.new _ _ _).cell 3⟩
        go_wp2_with (at_builtin; refine wpList_app_c64 rfl _ _ 31 43 rfl Try.underlying31 infoC64 (w.heap.size + 1 + 1 + 1 + 1) _ L z rfl HA.out.row w3.heap.size rfl HQ.out HLL.out HA.out.size ?_)
        intro v' w15 ho hg _
        have HB5 := Lib.hid (HA.out.app ho hg)
        obtain ⟨xa, xc, rfl⟩ := ho.shape
        have HV := Lib.hid HB5.out.store
        generalize (L ++ [z]).length = xn at *
        have c2 := HB5.out.out.cell 2
        have f2 := HB5.out.out.free 2
        have lg := HB5.out.out.lt
        simp only [List.getElem?_toArray, List.getElem?_cons_zero, List.getElem?_cons_succ] at c2
        clear ho hg HA HQ k0 k1 k2 k3
        go_wp2_with fail
        exact ⟨⟨k + 1, _, by omega, by go_num, by rw [HTK.out, HPX.out]; exact HV.out⟩, by simp [intOf]; omega⟩
    · have hd : decide ((k : Int) < (n : Int)) = false := by simp; omega
      obtain rfl : n = k := by omega
      have HR := Lib.hid hw.out.row
      have d0 := hw.out.out.cell 0
      have d1 := hw.out.out.cell 1
      have d2 := hw.out.out.cell 2
      have z0 := hw.out.lays.2.2.1.cell 0
      have z1 := hw.out.lays.2.2.1.cell 1
      have z2 := hw.out.lays.2.2.1.cell 2
      have f0 := hw.out.lays.2.2.1.free 0
      have f1 := hw.out.lays.2.2.1.free 1
      have f2 := hw.out.lays.2.2.1.free 2
      have lg := hw.out.lays.2.2.1.lt
      simp only [List.getElem?_toArray, List.getElem?_cons_zero, List.getElem?_cons_succ] at d0 d1 d2 z0 z1 z2 lg f0 f1 f2
      obtain ⟨va, vc, rfl⟩ := HR.out.shape
      generalize (layL W oW oH x y b m l ol n).length = vn at *
      go_wp2_with fail
      exact bodyPost_ret (results_im 12 rfl rfl (((hw.out.lays.2.2.1.set 0 _).set 1 _).set 2 _)) rfl ⟨_, rfl, (((HR.out.setCell (by omega) _).setCell (by omega) _).setCell (by omega) _).base (by omega), ((hw.out.below.setCell (by simp; omega) _).setCell (by simp; omega) _).setCell (by simp; omega) _⟩
end Go.Proofs.Ytoppmlfibllhlaa

