/- Layer 6: what a matrix makes of a segment. -/
import Derived.Test.YtffgpikhahpomaaDoorMa
import Derived.Test.YtffgpikhahpomaaDoorSb
import Derived.Test.YtffgpikhahpomaaDoorSc
import Derived.Test.YtffgpikhahpomaaDoorSh
import Derived.Deep.CutBlock
namespace Go.Proofs.YtffgpikhahpomaaDoor
open Go.RowKit
/-- The first points of a segment put elsewhere. -/
def mixQ (s : Sg) (p q r : Pt) : Nat → Sg
  | 0 => s
  | 1 => ⟨s.k, p, s.q, s.r⟩
  | 2 => ⟨s.k, p, q, s.r⟩
  | _ => ⟨s.k, p, q, r⟩
abbrev zSg : Sg := ⟨0, (0, 0), (0, 0), (0, 0)⟩
theorem below_seven {w w' : World} {B g : Nat} (h : Below B w w') (hg : B ≤ g) (a b c d e f i : Value) : Below B w (((((((w'.setCell ⟨g, 0, none⟩ a).setCell ⟨g, 1, none⟩ b).setCell ⟨g, 2, none⟩ c).setCell ⟨g, 3, none⟩ d).setCell ⟨g, 4, none⟩ e).setCell ⟨g, 5, none⟩ f).setCell ⟨g, 6, none⟩ i) :=
  ((((((h.setCell hg _).setCell hg _).setCell hg _).setCell hg _).setCell hg _).setCell hg _).setCell hg _
/-- A point that a matrix makes of one. -/
def mkP (m : Mx) (p : Pt) : Pt := (apX m p.1 p.2, apY m p.1 p.2)
def madeOk (m : Mx) (s : Sg) : Bool := (needPts s).all fun p => apOk m p.1 p.2
def madeS (m : Mx) (s : Sg) : Sg := mixQ s (mkP m s.p) (mkP m s.q) (mkP m s.r) (needI s.k)
def madeA (m : Mx) (s : Sg) : Sg := if madeOk m s = true then madeS m s else zSg
def madeE (m : Mx) (s : Sg) : Int := if madeOk m s = true then 0 else 10
theorem all_take {α : Type} {l : List α} {f : α → Bool} {j : Nat} {a : α} (h : (l.take j).all f = true) (hj : l[j]? = some a) (ha : f a = true) : (l.take (j + 1)).all f = true := by
  rw [List.take_add_one, hj, List.all_append, h]
  simp [ha]
theorem made_bad {m : Mx} {s : Sg} {n i : Nat} {p : Pt} (hn : needPts s = s.pts.take n) (hi : i < n) (hp : s.pts[i]? = some p) (h : apOk m p.1 p.2 = false) : madeA m s = zSg ∧ madeE m s = 10 := by
  have hb : madeOk m s = false := by
    unfold madeOk
    rw [hn, List.all_eq_false]
    refine ⟨p, ?_, by simp [h]⟩
    have : (s.pts.take n)[i]? = some p := by rw [List.getElem?_take, if_pos hi]; exact hp
    exact List.mem_of_getElem? this
  unfold madeA madeE
  simp [hb]
theorem made_good {m : Mx} {s : Sg} {n : Nat} (hk : needI s.k = n) (h : ((s.pts.take n).all fun p => apOk m p.1 p.2) = true) : madeA m s = mixQ s (mkP m s.p) (mkP m s.q) (mkP m s.r) n ∧ madeE m s = 0 := by
  have hb : madeOk m s = true := by
    unfold madeOk needPts
    rw [hk]; exact h
  unfold madeA madeE madeS
  simp [hb, hk]
theorem apply_ok (m : Mx) (x y : Int) (h : apOk m x y = true) (w : World) : Calls Tryd.prog 29 #[.agg (six m), .agg #[.int .i64 x, .int .i64 y]] w fun e w' => e = .returned (.tuple #[.agg #[.int .i64 (apX m x y), .int .i64 (apY m x y)], .int .i64 0]) ∧ Below w.heap.size w w' := by
  have k := apply_c m x y w
  rw [h] at k
  exact k
theorem apply_no (m : Mx) (x y : Int) (h : apOk m x y = false) (w : World) : Calls Tryd.prog 29 #[.agg (six m), .agg #[.int .i64 x, .int .i64 y]] w fun e w' => e = .returned (.tuple #[.agg #[.int .i64 0, .int .i64 0], .int .i64 10]) ∧ Below w.heap.size w w' := by
  have k := apply_c m x y w
  rw [h] at k
  exact k
theorem mix_set0 {w : World} {g : Nat} {t : TypeId} {s : Sg} {P Q R : Pt} (h : Blk w g t (mixQ s P Q R 0).cells) : Blk ((w.setCell ⟨g, 1, none⟩ (.int .i64 P.1)).setCell ⟨g, 2, none⟩ (.int .i64 P.2)) g t (mixQ s P Q R 1).cells := by
  have h' : Blk w g t (seven s.k s.p s.q s.r) := h
  exact (h'.put 1 _ (seven s.k (P.1, s.p.2) s.q s.r) rfl).put 2 _ (seven s.k P s.q s.r) rfl
theorem mix_set1 {w : World} {g : Nat} {t : TypeId} {s : Sg} {P Q R : Pt} (h : Blk w g t (mixQ s P Q R 1).cells) : Blk ((w.setCell ⟨g, 3, none⟩ (.int .i64 Q.1)).setCell ⟨g, 4, none⟩ (.int .i64 Q.2)) g t (mixQ s P Q R 2).cells := by
  have h' : Blk w g t (seven s.k P s.q s.r) := h
  exact (h'.put 3 _ (seven s.k P (Q.1, s.q.2) s.r) rfl).put 4 _ (seven s.k P Q s.r) rfl
theorem mix_set2 {w : World} {g : Nat} {t : TypeId} {s : Sg} {P Q R : Pt} (h : Blk w g t (mixQ s P Q R 2).cells) : Blk ((w.setCell ⟨g, 5, none⟩ (.int .i64 R.1)).setCell ⟨g, 6, none⟩ (.int .i64 R.2)) g t (mixQ s P Q R 3).cells := by
  have h' : Blk w g t (seven s.k P Q s.r) := h
  exact (h'.put 5 _ (seven s.k P Q (R.1, s.r.2)) rfl).put 6 _ (seven s.k P Q R) rfl
theorem apply_to (m : Mx) (x y X Y : Int) (h : apOk m x y = true) (hq : mkP m (x, y) = (X, Y)) (w : World) : Calls Tryd.prog 29 #[.agg (six m), .agg #[.int .i64 x, .int .i64 y]] w fun e w' => e = .returned (.tuple #[.agg #[.int .i64 X, .int .i64 Y], .int .i64 0]) ∧ Below w.heap.size w w' := by
  have k := apply_ok m x y h w
  have e1 : apX m x y = X := congrArg Prod.fst hq
  have e2 : apY m x y = Y := congrArg Prod.snd hq
  rw [e1, e2] at k
  exact k
/-- The variables of made. -/
structure MdS (w W : World) (s a : Sg) (m : Mx) : Prop where
  below : Below w.heap.size w W
  ks : Blk W w.heap.size 48 a.cells
  km : Blk W (w.heap.size + 1) 67 (six m)
  kz : Blk W (w.heap.size + 1 + 1) 48 zSg.cells
theorem MdS.next {w W W' : World} {s a : Sg} {m : Mx} (h : MdS w W s a m) (hb : Below W.heap.size W W') : MdS w W' s a m :=
  ⟨below_next h.below hb, h.ks.grow hb, h.km.grow hb, h.kz.grow hb⟩
theorem results_made {fn : Func} {tmps : Array Value} {W : World} {g : Nat} {x : Sg} {u : Value} (a c : Nat) (hres : fn.results = #[.cell a 48, .tmp c]) (ha : tmps[a]? = some (.pointer (some ⟨g, 0, none⟩))) (hc : tmps[c]? = some u) (hg : Blk W g 48 x.cells) :
    (results fn tmps).run Tryd.prog W = .ok (.tuple #[.agg x.cells, u]) W := by
  have d0 := hg.s0
  have d1 := hg.s1
  have d2 := hg.s2
  have d3 := hg.s3
  have d4 := hg.s4
  have d5 := hg.s5
  have d6 := hg.s6
  simp [results, hres, ha, hc, go_sem, d0, d1, d2, d3, d4, d5, d6, Sg.cells]
set_option maxHeartbeats 4000000 in
set_option maxRecDepth 100000 in
theorem made_0 (s : Sg) (m : Mx) (w : World) (hr : Rd w) (hk : needI s.k = 0) :
    Calls Tryd.prog 47 #[.agg (seven s.k s.p s.q s.r), .agg (six m)] w fun e w' => e = .returned (.tuple #[.agg (madeA m s).cells, .int .i64 (madeE m s)]) ∧ Below w.heap.size w w' := by
  have HR := Lib.hid hr
  have HK := Lib.hid hk
  have HNP : Hid (needPts s = s.pts.take 0) := by unfold Hid needPts; rw [hk]
  have HPT : Hid (∀ W, Rd W → Calls Tryd.prog 53 #[.agg (seven s.k s.p s.q s.r)] W fun e w' => e = .returned (.slice (some ⟨W.heap.size, 1, none⟩) 0 3) ∧ W.alloc (.cells s.cells 48) = w') := fun W h => by have := points_c s W h; rw [hk] at this; exact this
  clear hr hk
  obtain ⟨w1, hw1⟩ : ∃ W, ((w.alloc (.cells (seven s.k s.p s.q s.r) 48)).alloc (.cells (six m) 67)).alloc (.cells zSeven 48) = W := ⟨_, rfl⟩
  have W1 : Hid (MdS w w1 s s m ∧ w1.heap.size = w.heap.size + 3) := by
    rw [← hw1]
    exact ⟨⟨(((Below.refl _ _).alloc (Nat.le_refl _) _).alloc (by simp) _).alloc (by simp; omega) _, ((Blk.new _ _ _).alloc _).alloc _, (Blk.newAt _ _ _ (by simp)).alloc _, Blk.newAt _ _ _ (by simp)⟩, by simp⟩
  have HW1 := Lib.hid hw1
  clear hw1
  go_enter Tryd.func47, Tryd.ntmps47
  have ka := W1.out.1.ks
  have c0 := ka.s0
  have c1 := ka.s1
  have c2 := ka.s2
  have c3 := ka.s3
  have c4 := ka.s4
  have c5 := ka.s5
  have c6 := ka.s6
  clear ka
  go_wp2_with fail
  rw [show ((w.alloc (.cells (seven s.k s.p s.q s.r) 48)).alloc (.cells (six m) 67)).alloc (.cells zSeven 48) = w1 from HW1.out]
  refine (HPT.out _ (HR.out.on W1.out.1.below)).mono ?_
  rintro e w2 ⟨rfl, rfl⟩
  clear c0 c1 c2 c3 c4 c5 c6
  have P2 : Hid (MdS w (w1.alloc (.cells s.cells 48)) s s m ∧ Blk (w1.alloc (.cells s.cells 48)) (w.heap.size + 3) 48 s.cells) := ⟨W1.out.1.next ((Below.refl _ _).alloc (Nat.le_refl _) _), Blk.newAt _ _ _ W1.out.2⟩
  rw [W1.out.2]
  generalize w1.alloc (.cells s.cells 48) = w2 at P2 ⊢
  clear W1 HW1
  go_wp2_with fail
  go_loopw [13] (fun k wr => ∃ (j : Nat) (z : Int), j ≤ 0 ∧ z = (j : Int) ∧ k = .int .i64 z ∧ Hid (MdS w wr s (mixQ s (mkP m s.p) (mkP m s.q) (mkP m s.r) j) m ∧ Blk wr (w.heap.size + 3) 48 s.cells ∧ ((s.pts.take j).all fun p => apOk m p.1 p.2) = true)) (fun k _ => 4 - (intOf k).toNat)
  case atStart => exact ⟨0, 0, by omega, rfl, rfl, P2.out.1, P2.out.2, rfl⟩
  case round =>
    obtain ⟨j, z, hj, hz, rfl, hx⟩ := hrel
    rcases (by omega : j = 0) with rfl
    · obtain rfl : z = 0 := by omega
      clear hz hj
      have hgood : Hid (madeA m s = mixQ s (mkP m s.p) (mkP m s.q) (mkP m s.r) 0 ∧ madeE m s = 0) := made_good HK.out hx.out.2.2
      obtain ⟨A, hA⟩ : ∃ A : Sg, mixQ s (mkP m s.p) (mkP m s.q) (mkP m s.r) 0 = A := ⟨_, rfl⟩
      rw [hA] at hgood
      have S5 : Hid (MdS w wr s A m) := by rw [← hA]; exact hx.out.1
      clear hA hx
      have ks := S5.out.ks
      have kz := S5.out.kz
      have a0 := ks.s0
      have a1 := ks.s1
      have a2 := ks.s2
      have a3 := ks.s3
      have a4 := ks.s4
      have a5 := ks.s5
      have a6 := ks.s6
      have z0 : wr.cell? ⟨w.heap.size + 1 + 1, 0, none⟩ = some (.int .i64 0) := kz.s0
      have z1 : wr.cell? ⟨w.heap.size + 1 + 1, 1, none⟩ = some (.int .i64 0) := kz.s1
      have z2 : wr.cell? ⟨w.heap.size + 1 + 1, 2, none⟩ = some (.int .i64 0) := kz.s2
      have z3 : wr.cell? ⟨w.heap.size + 1 + 1, 3, none⟩ = some (.int .i64 0) := kz.s3
      have z4 : wr.cell? ⟨w.heap.size + 1 + 1, 4, none⟩ = some (.int .i64 0) := kz.s4
      have z5 : wr.cell? ⟨w.heap.size + 1 + 1, 5, none⟩ = some (.int .i64 0) := kz.s5
      have z6 : wr.cell? ⟨w.heap.size + 1 + 1, 6, none⟩ = some (.int .i64 0) := kz.s6
      have f0 := fun j => kz.free j
      have l0 := kz.lt
      have l1 := ks.lt
      clear ks kz
      go_wp2_with fail
      clear a0 a1 a2 a3 a4 a5 a6 z0 z1 z2 z3 z4 z5 z6 f0 l0 l1
      rw [hgood.out.1, hgood.out.2]
      exact bodyPost_ret (results_made 4 5 rfl rfl rfl (S5.out.kz.setS A)) rfl ⟨rfl, below_seven S5.out.below (by omega) _ _ _ _ _ _ _⟩
set_option maxHeartbeats 4000000 in
set_option maxRecDepth 100000 in
theorem made_1 (s : Sg) (m : Mx) (w : World) (hr : Rd w) (hk : needI s.k = 1) :
    Calls Tryd.prog 47 #[.agg (seven s.k s.p s.q s.r), .agg (six m)] w fun e w' => e = .returned (.tuple #[.agg (madeA m s).cells, .int .i64 (madeE m s)]) ∧ Below w.heap.size w w' := by
  have HR := Lib.hid hr
  have HK := Lib.hid hk
  have HNP : Hid (needPts s = s.pts.take 1) := by unfold Hid needPts; rw [hk]
  have HPT : Hid (∀ W, Rd W → Calls Tryd.prog 53 #[.agg (seven s.k s.p s.q s.r)] W fun e w' => e = .returned (.slice (some ⟨W.heap.size, 1, none⟩) 1 3) ∧ W.alloc (.cells s.cells 48) = w') := fun W h => by have := points_c s W h; rw [hk] at this; exact this
  clear hr hk
  obtain ⟨w1, hw1⟩ : ∃ W, ((w.alloc (.cells (seven s.k s.p s.q s.r) 48)).alloc (.cells (six m) 67)).alloc (.cells zSeven 48) = W := ⟨_, rfl⟩
  have W1 : Hid (MdS w w1 s s m ∧ w1.heap.size = w.heap.size + 3) := by
    rw [← hw1]
    exact ⟨⟨(((Below.refl _ _).alloc (Nat.le_refl _) _).alloc (by simp) _).alloc (by simp; omega) _, ((Blk.new _ _ _).alloc _).alloc _, (Blk.newAt _ _ _ (by simp)).alloc _, Blk.newAt _ _ _ (by simp)⟩, by simp⟩
  have HW1 := Lib.hid hw1
  clear hw1
  go_enter Tryd.func47, Tryd.ntmps47
  have ka := W1.out.1.ks
  have c0 := ka.s0
  have c1 := ka.s1
  have c2 := ka.s2
  have c3 := ka.s3
  have c4 := ka.s4
  have c5 := ka.s5
  have c6 := ka.s6
  clear ka
  go_wp2_with fail
  rw [show ((w.alloc (.cells (seven s.k s.p s.q s.r) 48)).alloc (.cells (six m) 67)).alloc (.cells zSeven 48) = w1 from HW1.out]
  refine (HPT.out _ (HR.out.on W1.out.1.below)).mono ?_
  rintro e w2 ⟨rfl, rfl⟩
  clear c0 c1 c2 c3 c4 c5 c6
  have P2 : Hid (MdS w (w1.alloc (.cells s.cells 48)) s s m ∧ Blk (w1.alloc (.cells s.cells 48)) (w.heap.size + 3) 48 s.cells) := ⟨W1.out.1.next ((Below.refl _ _).alloc (Nat.le_refl _) _), Blk.newAt _ _ _ W1.out.2⟩
  rw [W1.out.2]
  generalize w1.alloc (.cells s.cells 48) = w2 at P2 ⊢
  clear W1 HW1
  go_wp2_with fail
  go_loopw [13] (fun k wr => ∃ (j : Nat) (z : Int), j ≤ 1 ∧ z = (j : Int) ∧ k = .int .i64 z ∧ Hid (MdS w wr s (mixQ s (mkP m s.p) (mkP m s.q) (mkP m s.r) j) m ∧ Blk wr (w.heap.size + 3) 48 s.cells ∧ ((s.pts.take j).all fun p => apOk m p.1 p.2) = true)) (fun k _ => 4 - (intOf k).toNat)
  case atStart => exact ⟨0, 0, by omega, rfl, rfl, P2.out.1, P2.out.2, rfl⟩
  case round =>
    obtain ⟨j, z, hj, hz, rfl, hx⟩ := hrel
    rcases (by omega : j = 0 ∨ j = 1) with rfl | rfl
    · obtain rfl : z = 0 := by omega
      clear hz hj
      obtain ⟨⟨px, py⟩, hp⟩ : ∃ a, s.p = a := ⟨_, rfl⟩
      have kp := hx.out.2.1
      have km := hx.out.1.km
      have x0 : wr.cell? ⟨w.heap.size + 3, 1, none⟩ = some (.int .i64 px) := by have := kp.s1; rw [hp] at this; exact this
      have x1 : wr.cell? ⟨w.heap.size + 3, 2, none⟩ = some (.int .i64 py) := by have := kp.s2; rw [hp] at this; exact this
      have m0 := km.m0
      have m1 := km.m1
      have m2 := km.m2
      have m3 := km.m3
      have m4 := km.m4
      have m5 := km.m5
      have lm := km.lt
      have lp := kp.lt
      have HP := Lib.hid hp
      have HM3 : Hid (MdS w (wr.alloc (.cells (two (px, py)) 44)) s (mixQ s (mkP m s.p) (mkP m s.q) (mkP m s.r) 0) m ∧ Blk (wr.alloc (.cells (two (px, py)) 44)) (w.heap.size + 3) 48 s.cells) := ⟨hx.out.1.next ((Below.refl _ _).alloc (Nat.le_refl _) _), kp.alloc _⟩
      clear kp km hp
      cases hk : apOk m px py
      · have HKK := Lib.hid hk
        have HAP := Lib.hid (apply_no m px py hk)
        clear hk
        have hbad : Hid (madeA m s = zSg ∧ madeE m s = 10) := made_bad HNP.out (i := 0) (by decide) rfl (by rw [HP.out]; exact HKK.out)
        go_wp2_with fail
        refine (HAP.out _).mono ?_
        rintro e w5 ⟨rfl, hb⟩
        have S5 : Hid (MdS w (w5.alloc (.cells (two (0, 0)) 44)) s (mixQ s (mkP m s.p) (mkP m s.q) (mkP m s.r) 0) m) := (HM3.out.1.next hb).next ((Below.refl _ _).alloc (Nat.le_refl _) _)
        clear hb x0 x1 m0 m1 m2 m3 m4 m5 lm lp
        go_upto_if 25 with fail
        obtain ⟨w6, hw6⟩ : ∃ W, w5.alloc (.cells (two (0, 0)) 44) = W := ⟨_, rfl⟩
        rw [hw6] at S5
        rw [show w5.alloc (.cells #[.int .i64 0, .int .i64 0] 44) = w6 from hw6]
        clear hw6
        have kz := S5.out.kz
        have z0 : w6.cell? ⟨w.heap.size + 1 + 1, 0, none⟩ = some (.int .i64 0) := kz.s0
        have z1 : w6.cell? ⟨w.heap.size + 1 + 1, 1, none⟩ = some (.int .i64 0) := kz.s1
        have z2 : w6.cell? ⟨w.heap.size + 1 + 1, 2, none⟩ = some (.int .i64 0) := kz.s2
        have z3 : w6.cell? ⟨w.heap.size + 1 + 1, 3, none⟩ = some (.int .i64 0) := kz.s3
        have z4 : w6.cell? ⟨w.heap.size + 1 + 1, 4, none⟩ = some (.int .i64 0) := kz.s4
        have z5 : w6.cell? ⟨w.heap.size + 1 + 1, 5, none⟩ = some (.int .i64 0) := kz.s5
        have z6 : w6.cell? ⟨w.heap.size + 1 + 1, 6, none⟩ = some (.int .i64 0) := kz.s6
        have f0 := fun j => kz.free j
        have l0 := kz.lt
        clear kz
        go_wp2_with fail
        clear z0 z1 z2 z3 z4 z5 z6 f0 l0
        rw [hbad.out.1, hbad.out.2]
        exact bodyPost_ret (results_made 4 5 rfl rfl rfl (S5.out.kz.setS zSg)) rfl ⟨rfl, below_seven S5.out.below (by omega) _ _ _ _ _ _ _⟩
      · have HKK := Lib.hid hk
        obtain ⟨⟨X, Y⟩, hXY⟩ : ∃ q, mkP m s.p = q := ⟨_, rfl⟩
        have HAP := Lib.hid (apply_to m px py X Y hk (by rw [← HP.out]; exact hXY))
        have HXY := Lib.hid hXY
        clear hk hXY
        have NXT : Hid ((((s.pts.take 1).all fun p => apOk m p.1 p.2)) = true) := all_take hx.out.2.2 (show s.pts[0]? = some s.p from rfl) (by rw [HP.out]; exact HKK.out)
        go_wp2_with fail
        refine (HAP.out _).mono ?_
        rintro e w5 ⟨rfl, hb⟩
        have S5 : Hid (MdS w (w5.alloc (.cells (two (X, Y)) 44)) s (mixQ s (mkP m s.p) (mkP m s.q) (mkP m s.r) 0) m ∧ Blk (w5.alloc (.cells (two (X, Y)) 44)) (w.heap.size + 3) 48 s.cells ∧ Blk (w5.alloc (.cells (two (X, Y)) 44)) w5.heap.size 44 (two (X, Y))) := ⟨(HM3.out.1.next hb).next ((Below.refl _ _).alloc (Nat.le_refl _) _), (HM3.out.2.grow hb).alloc _, Blk.new _ _ _⟩
        clear hb x0 x1 m0 m1 m2 m3 m4 m5 lm lp
        go_upto_if 25 with fail
        obtain ⟨w6, hw6⟩ : ∃ W, w5.alloc (.cells (two (X, Y)) 44) = W := ⟨_, rfl⟩
        rw [hw6] at S5
        rw [show w5.alloc (.cells #[.int .i64 X, .int .i64 Y] 44) = w6 from hw6]
        clear hw6
        have ks := S5.out.1.ks
        have kq := S5.out.2.2
        have q0 := kq.p0
        have q1 := kq.p1
        have y0 := ks.s1
        have y1 := ks.s2
        have f0 := ks.free 1
        have f1 := ks.free 2
        have l0 := ks.lt
        have NX : Hid (MdS w ((w6.setCell ⟨w.heap.size, 1, none⟩ (.int .i64 X)).setCell ⟨w.heap.size, 2, none⟩ (.int .i64 Y)) s (mixQ s (mkP m s.p) (mkP m s.q) (mkP m s.r) 1) m ∧ Blk ((w6.setCell ⟨w.heap.size, 1, none⟩ (.int .i64 X)).setCell ⟨w.heap.size, 2, none⟩ (.int .i64 Y)) (w.heap.size + 3) 48 s.cells ∧ ((s.pts.take 1).all fun p => apOk m p.1 p.2) = true) := by
          have ex : X = (mkP m s.p).1 := by rw [HXY.out]
          have ey : Y = (mkP m s.p).2 := by rw [HXY.out]
          rw [ex, ey]
          exact ⟨⟨(S5.out.1.below.setCell (Nat.le_refl _) _).setCell (Nat.le_refl _) _, mix_set0 ks, (S5.out.1.km.other _ _ (by dsimp only; omega)).other _ _ (by dsimp only; omega), (S5.out.1.kz.other _ _ (by dsimp only; omega)).other _ _ (by dsimp only; omega)⟩, (S5.out.2.1.other _ _ (by dsimp only; omega)).other _ _ (by dsimp only; omega), NXT.out⟩
        clear ks kq
        go_wp2_with fail
        exact ⟨⟨1, 1, by omega, by decide, by simp, NX.out⟩, by simp [intOf]⟩
    · obtain rfl : z = 1 := by omega
      clear hz hj
      have hgood : Hid (madeA m s = mixQ s (mkP m s.p) (mkP m s.q) (mkP m s.r) 1 ∧ madeE m s = 0) := made_good HK.out hx.out.2.2
      obtain ⟨A, hA⟩ : ∃ A : Sg, mixQ s (mkP m s.p) (mkP m s.q) (mkP m s.r) 1 = A := ⟨_, rfl⟩
      rw [hA] at hgood
      have S5 : Hid (MdS w wr s A m) := by rw [← hA]; exact hx.out.1
      clear hA hx
      have ks := S5.out.ks
      have kz := S5.out.kz
      have a0 := ks.s0
      have a1 := ks.s1
      have a2 := ks.s2
      have a3 := ks.s3
      have a4 := ks.s4
      have a5 := ks.s5
      have a6 := ks.s6
      have z0 : wr.cell? ⟨w.heap.size + 1 + 1, 0, none⟩ = some (.int .i64 0) := kz.s0
      have z1 : wr.cell? ⟨w.heap.size + 1 + 1, 1, none⟩ = some (.int .i64 0) := kz.s1
      have z2 : wr.cell? ⟨w.heap.size + 1 + 1, 2, none⟩ = some (.int .i64 0) := kz.s2
      have z3 : wr.cell? ⟨w.heap.size + 1 + 1, 3, none⟩ = some (.int .i64 0) := kz.s3
      have z4 : wr.cell? ⟨w.heap.size + 1 + 1, 4, none⟩ = some (.int .i64 0) := kz.s4
      have z5 : wr.cell? ⟨w.heap.size + 1 + 1, 5, none⟩ = some (.int .i64 0) := kz.s5
      have z6 : wr.cell? ⟨w.heap.size + 1 + 1, 6, none⟩ = some (.int .i64 0) := kz.s6
      have f0 := fun j => kz.free j
      have l0 := kz.lt
      have l1 := ks.lt
      clear ks kz
      go_wp2_with fail
      clear a0 a1 a2 a3 a4 a5 a6 z0 z1 z2 z3 z4 z5 z6 f0 l0 l1
      rw [hgood.out.1, hgood.out.2]
      exact bodyPost_ret (results_made 4 5 rfl rfl rfl (S5.out.kz.setS A)) rfl ⟨rfl, below_seven S5.out.below (by omega) _ _ _ _ _ _ _⟩
set_option maxHeartbeats 4000000 in
set_option maxRecDepth 100000 in
theorem made_2 (s : Sg) (m : Mx) (w : World) (hr : Rd w) (hk : needI s.k = 2) :
    Calls Tryd.prog 47 #[.agg (seven s.k s.p s.q s.r), .agg (six m)] w fun e w' => e = .returned (.tuple #[.agg (madeA m s).cells, .int .i64 (madeE m s)]) ∧ Below w.heap.size w w' := by
  have HR := Lib.hid hr
  have HK := Lib.hid hk
  have HNP : Hid (needPts s = s.pts.take 2) := by unfold Hid needPts; rw [hk]
  have HPT : Hid (∀ W, Rd W → Calls Tryd.prog 53 #[.agg (seven s.k s.p s.q s.r)] W fun e w' => e = .returned (.slice (some ⟨W.heap.size, 1, none⟩) 2 3) ∧ W.alloc (.cells s.cells 48) = w') := fun W h => by have := points_c s W h; rw [hk] at this; exact this
  clear hr hk
  obtain ⟨w1, hw1⟩ : ∃ W, ((w.alloc (.cells (seven s.k s.p s.q s.r) 48)).alloc (.cells (six m) 67)).alloc (.cells zSeven 48) = W := ⟨_, rfl⟩
  have W1 : Hid (MdS w w1 s s m ∧ w1.heap.size = w.heap.size + 3) := by
    rw [← hw1]
    exact ⟨⟨(((Below.refl _ _).alloc (Nat.le_refl _) _).alloc (by simp) _).alloc (by simp; omega) _, ((Blk.new _ _ _).alloc _).alloc _, (Blk.newAt _ _ _ (by simp)).alloc _, Blk.newAt _ _ _ (by simp)⟩, by simp⟩
  have HW1 := Lib.hid hw1
  clear hw1
  go_enter Tryd.func47, Tryd.ntmps47
  have ka := W1.out.1.ks
  have c0 := ka.s0
  have c1 := ka.s1
  have c2 := ka.s2
  have c3 := ka.s3
  have c4 := ka.s4
  have c5 := ka.s5
  have c6 := ka.s6
  clear ka
  go_wp2_with fail
  rw [show ((w.alloc (.cells (seven s.k s.p s.q s.r) 48)).alloc (.cells (six m) 67)).alloc (.cells zSeven 48) = w1 from HW1.out]
  refine (HPT.out _ (HR.out.on W1.out.1.below)).mono ?_
  rintro e w2 ⟨rfl, rfl⟩
  clear c0 c1 c2 c3 c4 c5 c6
  have P2 : Hid (MdS w (w1.alloc (.cells s.cells 48)) s s m ∧ Blk (w1.alloc (.cells s.cells 48)) (w.heap.size + 3) 48 s.cells) := ⟨W1.out.1.next ((Below.refl _ _).alloc (Nat.le_refl _) _), Blk.newAt _ _ _ W1.out.2⟩
  rw [W1.out.2]
  generalize w1.alloc (.cells s.cells 48) = w2 at P2 ⊢
  clear W1 HW1
  go_wp2_with fail
  go_loopw [13] (fun k wr => ∃ (j : Nat) (z : Int), j ≤ 2 ∧ z = (j : Int) ∧ k = .int .i64 z ∧ Hid (MdS w wr s (mixQ s (mkP m s.p) (mkP m s.q) (mkP m s.r) j) m ∧ Blk wr (w.heap.size + 3) 48 s.cells ∧ ((s.pts.take j).all fun p => apOk m p.1 p.2) = true)) (fun k _ => 4 - (intOf k).toNat)
  case atStart => exact ⟨0, 0, by omega, rfl, rfl, P2.out.1, P2.out.2, rfl⟩
  case round =>
    obtain ⟨j, z, hj, hz, rfl, hx⟩ := hrel
    rcases (by omega : j = 0 ∨ j = 1 ∨ j = 2) with rfl | rfl | rfl
    · obtain rfl : z = 0 := by omega
      clear hz hj
      obtain ⟨⟨px, py⟩, hp⟩ : ∃ a, s.p = a := ⟨_, rfl⟩
      have kp := hx.out.2.1
      have km := hx.out.1.km
      have x0 : wr.cell? ⟨w.heap.size + 3, 1, none⟩ = some (.int .i64 px) := by have := kp.s1; rw [hp] at this; exact this
      have x1 : wr.cell? ⟨w.heap.size + 3, 2, none⟩ = some (.int .i64 py) := by have := kp.s2; rw [hp] at this; exact this
      have m0 := km.m0
      have m1 := km.m1
      have m2 := km.m2
      have m3 := km.m3
      have m4 := km.m4
      have m5 := km.m5
      have lm := km.lt
      have lp := kp.lt
      have HP := Lib.hid hp
      have HM3 : Hid (MdS w (wr.alloc (.cells (two (px, py)) 44)) s (mixQ s (mkP m s.p) (mkP m s.q) (mkP m s.r) 0) m ∧ Blk (wr.alloc (.cells (two (px, py)) 44)) (w.heap.size + 3) 48 s.cells) := ⟨hx.out.1.next ((Below.refl _ _).alloc (Nat.le_refl _) _), kp.alloc _⟩
      clear kp km hp
      cases hk : apOk m px py
      · have HKK := Lib.hid hk
        have HAP := Lib.hid (apply_no m px py hk)
        clear hk
        have hbad : Hid (madeA m s = zSg ∧ madeE m s = 10) := made_bad HNP.out (i := 0) (by decide) rfl (by rw [HP.out]; exact HKK.out)
        go_wp2_with fail
        refine (HAP.out _).mono ?_
        rintro e w5 ⟨rfl, hb⟩
        have S5 : Hid (MdS w (w5.alloc (.cells (two (0, 0)) 44)) s (mixQ s (mkP m s.p) (mkP m s.q) (mkP m s.r) 0) m) := (HM3.out.1.next hb).next ((Below.refl _ _).alloc (Nat.le_refl _) _)
        clear hb x0 x1 m0 m1 m2 m3 m4 m5 lm lp
        go_upto_if 25 with fail
        obtain ⟨w6, hw6⟩ : ∃ W, w5.alloc (.cells (two (0, 0)) 44) = W := ⟨_, rfl⟩
        rw [hw6] at S5
        rw [show w5.alloc (.cells #[.int .i64 0, .int .i64 0] 44) = w6 from hw6]
        clear hw6
        have kz := S5.out.kz
        have z0 : w6.cell? ⟨w.heap.size + 1 + 1, 0, none⟩ = some (.int .i64 0) := kz.s0
        have z1 : w6.cell? ⟨w.heap.size + 1 + 1, 1, none⟩ = some (.int .i64 0) := kz.s1
        have z2 : w6.cell? ⟨w.heap.size + 1 + 1, 2, none⟩ = some (.int .i64 0) := kz.s2
        have z3 : w6.cell? ⟨w.heap.size + 1 + 1, 3, none⟩ = some (.int .i64 0) := kz.s3
        have z4 : w6.cell? ⟨w.heap.size + 1 + 1, 4, none⟩ = some (.int .i64 0) := kz.s4
        have z5 : w6.cell? ⟨w.heap.size + 1 + 1, 5, none⟩ = some (.int .i64 0) := kz.s5
        have z6 : w6.cell? ⟨w.heap.size + 1 + 1, 6, none⟩ = some (.int .i64 0) := kz.s6
        have f0 := fun j => kz.free j
        have l0 := kz.lt
        clear kz
        go_wp2_with fail
        clear z0 z1 z2 z3 z4 z5 z6 f0 l0
        rw [hbad.out.1, hbad.out.2]
        exact bodyPost_ret (results_made 4 5 rfl rfl rfl (S5.out.kz.setS zSg)) rfl ⟨rfl, below_seven S5.out.below (by omega) _ _ _ _ _ _ _⟩
      · have HKK := Lib.hid hk
        obtain ⟨⟨X, Y⟩, hXY⟩ : ∃ q, mkP m s.p = q := ⟨_, rfl⟩
        have HAP := Lib.hid (apply_to m px py X Y hk (by rw [← HP.out]; exact hXY))
        have HXY := Lib.hid hXY
        clear hk hXY
        have NXT : Hid ((((s.pts.take 1).all fun p => apOk m p.1 p.2)) = true) := all_take hx.out.2.2 (show s.pts[0]? = some s.p from rfl) (by rw [HP.out]; exact HKK.out)
        go_wp2_with fail
        refine (HAP.out _).mono ?_
        rintro e w5 ⟨rfl, hb⟩
        have S5 : Hid (MdS w (w5.alloc (.cells (two (X, Y)) 44)) s (mixQ s (mkP m s.p) (mkP m s.q) (mkP m s.r) 0) m ∧ Blk (w5.alloc (.cells (two (X, Y)) 44)) (w.heap.size + 3) 48 s.cells ∧ Blk (w5.alloc (.cells (two (X, Y)) 44)) w5.heap.size 44 (two (X, Y))) := ⟨(HM3.out.1.next hb).next ((Below.refl _ _).alloc (Nat.le_refl _) _), (HM3.out.2.grow hb).alloc _, Blk.new _ _ _⟩
        clear hb x0 x1 m0 m1 m2 m3 m4 m5 lm lp
        go_upto_if 25 with fail
        obtain ⟨w6, hw6⟩ : ∃ W, w5.alloc (.cells (two (X, Y)) 44) = W := ⟨_, rfl⟩
        rw [hw6] at S5
        rw [show w5.alloc (.cells #[.int .i64 X, .int .i64 Y] 44) = w6 from hw6]
        clear hw6
        have ks := S5.out.1.ks
        have kq := S5.out.2.2
        have q0 := kq.p0
        have q1 := kq.p1
        have y0 := ks.s1
        have y1 := ks.s2
        have f0 := ks.free 1
        have f1 := ks.free 2
        have l0 := ks.lt
        have NX : Hid (MdS w ((w6.setCell ⟨w.heap.size, 1, none⟩ (.int .i64 X)).setCell ⟨w.heap.size, 2, none⟩ (.int .i64 Y)) s (mixQ s (mkP m s.p) (mkP m s.q) (mkP m s.r) 1) m ∧ Blk ((w6.setCell ⟨w.heap.size, 1, none⟩ (.int .i64 X)).setCell ⟨w.heap.size, 2, none⟩ (.int .i64 Y)) (w.heap.size + 3) 48 s.cells ∧ ((s.pts.take 1).all fun p => apOk m p.1 p.2) = true) := by
          have ex : X = (mkP m s.p).1 := by rw [HXY.out]
          have ey : Y = (mkP m s.p).2 := by rw [HXY.out]
          rw [ex, ey]
          exact ⟨⟨(S5.out.1.below.setCell (Nat.le_refl _) _).setCell (Nat.le_refl _) _, mix_set0 ks, (S5.out.1.km.other _ _ (by dsimp only; omega)).other _ _ (by dsimp only; omega), (S5.out.1.kz.other _ _ (by dsimp only; omega)).other _ _ (by dsimp only; omega)⟩, (S5.out.2.1.other _ _ (by dsimp only; omega)).other _ _ (by dsimp only; omega), NXT.out⟩
        clear ks kq
        go_wp2_with fail
        exact ⟨⟨1, 1, by omega, by decide, by simp, NX.out⟩, by simp [intOf]⟩
    · obtain rfl : z = 1 := by omega
      clear hz hj
      obtain ⟨⟨px, py⟩, hp⟩ : ∃ a, s.q = a := ⟨_, rfl⟩
      have kp := hx.out.2.1
      have km := hx.out.1.km
      have x0 : wr.cell? ⟨w.heap.size + 3, 3, none⟩ = some (.int .i64 px) := by have := kp.s3; rw [hp] at this; exact this
      have x1 : wr.cell? ⟨w.heap.size + 3, 4, none⟩ = some (.int .i64 py) := by have := kp.s4; rw [hp] at this; exact this
      have m0 := km.m0
      have m1 := km.m1
      have m2 := km.m2
      have m3 := km.m3
      have m4 := km.m4
      have m5 := km.m5
      have lm := km.lt
      have lp := kp.lt
      have HP := Lib.hid hp
      have HM3 : Hid (MdS w (wr.alloc (.cells (two (px, py)) 44)) s (mixQ s (mkP m s.p) (mkP m s.q) (mkP m s.r) 1) m ∧ Blk (wr.alloc (.cells (two (px, py)) 44)) (w.heap.size + 3) 48 s.cells) := ⟨hx.out.1.next ((Below.refl _ _).alloc (Nat.le_refl _) _), kp.alloc _⟩
      clear kp km hp
      cases hk : apOk m px py
      · have HKK := Lib.hid hk
        have HAP := Lib.hid (apply_no m px py hk)
        clear hk
        have hbad : Hid (madeA m s = zSg ∧ madeE m s = 10) := made_bad HNP.out (i := 1) (by decide) rfl (by rw [HP.out]; exact HKK.out)
        go_wp2_with fail
        refine (HAP.out _).mono ?_
        rintro e w5 ⟨rfl, hb⟩
        have S5 : Hid (MdS w (w5.alloc (.cells (two (0, 0)) 44)) s (mixQ s (mkP m s.p) (mkP m s.q) (mkP m s.r) 1) m) := (HM3.out.1.next hb).next ((Below.refl _ _).alloc (Nat.le_refl _) _)
        clear hb x0 x1 m0 m1 m2 m3 m4 m5 lm lp
        go_upto_if 25 with fail
        obtain ⟨w6, hw6⟩ : ∃ W, w5.alloc (.cells (two (0, 0)) 44) = W := ⟨_, rfl⟩
        rw [hw6] at S5
        rw [show w5.alloc (.cells #[.int .i64 0, .int .i64 0] 44) = w6 from hw6]
        clear hw6
        have kz := S5.out.kz
        have z0 : w6.cell? ⟨w.heap.size + 1 + 1, 0, none⟩ = some (.int .i64 0) := kz.s0
        have z1 : w6.cell? ⟨w.heap.size + 1 + 1, 1, none⟩ = some (.int .i64 0) := kz.s1
        have z2 : w6.cell? ⟨w.heap.size + 1 + 1, 2, none⟩ = some (.int .i64 0) := kz.s2
        have z3 : w6.cell? ⟨w.heap.size + 1 + 1, 3, none⟩ = some (.int .i64 0) := kz.s3
        have z4 : w6.cell? ⟨w.heap.size + 1 + 1, 4, none⟩ = some (.int .i64 0) := kz.s4
        have z5 : w6.cell? ⟨w.heap.size + 1 + 1, 5, none⟩ = some (.int .i64 0) := kz.s5
        have z6 : w6.cell? ⟨w.heap.size + 1 + 1, 6, none⟩ = some (.int .i64 0) := kz.s6
        have f0 := fun j => kz.free j
        have l0 := kz.lt
        clear kz
        go_wp2_with fail
        clear z0 z1 z2 z3 z4 z5 z6 f0 l0
        rw [hbad.out.1, hbad.out.2]
        exact bodyPost_ret (results_made 4 5 rfl rfl rfl (S5.out.kz.setS zSg)) rfl ⟨rfl, below_seven S5.out.below (by omega) _ _ _ _ _ _ _⟩
      · have HKK := Lib.hid hk
        obtain ⟨⟨X, Y⟩, hXY⟩ : ∃ q, mkP m s.q = q := ⟨_, rfl⟩
        have HAP := Lib.hid (apply_to m px py X Y hk (by rw [← HP.out]; exact hXY))
        have HXY := Lib.hid hXY
        clear hk hXY
        have NXT : Hid ((((s.pts.take 2).all fun p => apOk m p.1 p.2)) = true) := all_take hx.out.2.2 (show s.pts[1]? = some s.q from rfl) (by rw [HP.out]; exact HKK.out)
        go_wp2_with fail
        refine (HAP.out _).mono ?_
        rintro e w5 ⟨rfl, hb⟩
        have S5 : Hid (MdS w (w5.alloc (.cells (two (X, Y)) 44)) s (mixQ s (mkP m s.p) (mkP m s.q) (mkP m s.r) 1) m ∧ Blk (w5.alloc (.cells (two (X, Y)) 44)) (w.heap.size + 3) 48 s.cells ∧ Blk (w5.alloc (.cells (two (X, Y)) 44)) w5.heap.size 44 (two (X, Y))) := ⟨(HM3.out.1.next hb).next ((Below.refl _ _).alloc (Nat.le_refl _) _), (HM3.out.2.grow hb).alloc _, Blk.new _ _ _⟩
        clear hb x0 x1 m0 m1 m2 m3 m4 m5 lm lp
        go_upto_if 25 with fail
        obtain ⟨w6, hw6⟩ : ∃ W, w5.alloc (.cells (two (X, Y)) 44) = W := ⟨_, rfl⟩
        rw [hw6] at S5
        rw [show w5.alloc (.cells #[.int .i64 X, .int .i64 Y] 44) = w6 from hw6]
        clear hw6
        have ks := S5.out.1.ks
        have kq := S5.out.2.2
        have q0 := kq.p0
        have q1 := kq.p1
        have y0 := ks.s3
        have y1 := ks.s4
        have f0 := ks.free 3
        have f1 := ks.free 4
        have l0 := ks.lt
        have NX : Hid (MdS w ((w6.setCell ⟨w.heap.size, 3, none⟩ (.int .i64 X)).setCell ⟨w.heap.size, 4, none⟩ (.int .i64 Y)) s (mixQ s (mkP m s.p) (mkP m s.q) (mkP m s.r) 2) m ∧ Blk ((w6.setCell ⟨w.heap.size, 3, none⟩ (.int .i64 X)).setCell ⟨w.heap.size, 4, none⟩ (.int .i64 Y)) (w.heap.size + 3) 48 s.cells ∧ ((s.pts.take 2).all fun p => apOk m p.1 p.2) = true) := by
          have ex : X = (mkP m s.q).1 := by rw [HXY.out]
          have ey : Y = (mkP m s.q).2 := by rw [HXY.out]
          rw [ex, ey]
          exact ⟨⟨(S5.out.1.below.setCell (Nat.le_refl _) _).setCell (Nat.le_refl _) _, mix_set1 ks, (S5.out.1.km.other _ _ (by dsimp only; omega)).other _ _ (by dsimp only; omega), (S5.out.1.kz.other _ _ (by dsimp only; omega)).other _ _ (by dsimp only; omega)⟩, (S5.out.2.1.other _ _ (by dsimp only; omega)).other _ _ (by dsimp only; omega), NXT.out⟩
        clear ks kq
        go_wp2_with fail
        exact ⟨⟨2, 2, by omega, by decide, by simp, NX.out⟩, by simp [intOf]⟩
    · obtain rfl : z = 2 := by omega
      clear hz hj
      have hgood : Hid (madeA m s = mixQ s (mkP m s.p) (mkP m s.q) (mkP m s.r) 2 ∧ madeE m s = 0) := made_good HK.out hx.out.2.2
      obtain ⟨A, hA⟩ : ∃ A : Sg, mixQ s (mkP m s.p) (mkP m s.q) (mkP m s.r) 2 = A := ⟨_, rfl⟩
      rw [hA] at hgood
      have S5 : Hid (MdS w wr s A m) := by rw [← hA]; exact hx.out.1
      clear hA hx
      have ks := S5.out.ks
      have kz := S5.out.kz
      have a0 := ks.s0
      have a1 := ks.s1
      have a2 := ks.s2
      have a3 := ks.s3
      have a4 := ks.s4
      have a5 := ks.s5
      have a6 := ks.s6
      have z0 : wr.cell? ⟨w.heap.size + 1 + 1, 0, none⟩ = some (.int .i64 0) := kz.s0
      have z1 : wr.cell? ⟨w.heap.size + 1 + 1, 1, none⟩ = some (.int .i64 0) := kz.s1
      have z2 : wr.cell? ⟨w.heap.size + 1 + 1, 2, none⟩ = some (.int .i64 0) := kz.s2
      have z3 : wr.cell? ⟨w.heap.size + 1 + 1, 3, none⟩ = some (.int .i64 0) := kz.s3
      have z4 : wr.cell? ⟨w.heap.size + 1 + 1, 4, none⟩ = some (.int .i64 0) := kz.s4
      have z5 : wr.cell? ⟨w.heap.size + 1 + 1, 5, none⟩ = some (.int .i64 0) := kz.s5
      have z6 : wr.cell? ⟨w.heap.size + 1 + 1, 6, none⟩ = some (.int .i64 0) := kz.s6
      have f0 := fun j => kz.free j
      have l0 := kz.lt
      have l1 := ks.lt
      clear ks kz
      go_wp2_with fail
      clear a0 a1 a2 a3 a4 a5 a6 z0 z1 z2 z3 z4 z5 z6 f0 l0 l1
      rw [hgood.out.1, hgood.out.2]
      exact bodyPost_ret (results_made 4 5 rfl rfl rfl (S5.out.kz.setS A)) rfl ⟨rfl, below_seven S5.out.below (by omega) _ _ _ _ _ _ _⟩
set_option maxHeartbeats 4000000 in
set_option maxRecDepth 100000 in
theorem made_3 (s : Sg) (m : Mx) (w : World) (hr : Rd w) (hk : needI s.k = 3) :
    Calls Tryd.prog 47 #[.agg (seven s.k s.p s.q s.r), .agg (six m)] w fun e w' => e = .returned (.tuple #[.agg (madeA m s).cells, .int .i64 (madeE m s)]) ∧ Below w.heap.size w w' := by
  have HR := Lib.hid hr
  have HK := Lib.hid hk
  have HNP : Hid (needPts s = s.pts.take 3) := by unfold Hid needPts; rw [hk]
  have HPT : Hid (∀ W, Rd W → Calls Tryd.prog 53 #[.agg (seven s.k s.p s.q s.r)] W fun e w' => e = .returned (.slice (some ⟨W.heap.size, 1, none⟩) 3 3) ∧ W.alloc (.cells s.cells 48) = w') := fun W h => by have := points_c s W h; rw [hk] at this; exact this
  clear hr hk
  obtain ⟨w1, hw1⟩ : ∃ W, ((w.alloc (.cells (seven s.k s.p s.q s.r) 48)).alloc (.cells (six m) 67)).alloc (.cells zSeven 48) = W := ⟨_, rfl⟩
  have W1 : Hid (MdS w w1 s s m ∧ w1.heap.size = w.heap.size + 3) := by
    rw [← hw1]
    exact ⟨⟨(((Below.refl _ _).alloc (Nat.le_refl _) _).alloc (by simp) _).alloc (by simp; omega) _, ((Blk.new _ _ _).alloc _).alloc _, (Blk.newAt _ _ _ (by simp)).alloc _, Blk.newAt _ _ _ (by simp)⟩, by simp⟩
  have HW1 := Lib.hid hw1
  clear hw1
  go_enter Tryd.func47, Tryd.ntmps47
  have ka := W1.out.1.ks
  have c0 := ka.s0
  have c1 := ka.s1
  have c2 := ka.s2
  have c3 := ka.s3
  have c4 := ka.s4
  have c5 := ka.s5
  have c6 := ka.s6
  clear ka
  go_wp2_with fail
  rw [show ((w.alloc (.cells (seven s.k s.p s.q s.r) 48)).alloc (.cells (six m) 67)).alloc (.cells zSeven 48) = w1 from HW1.out]
  refine (HPT.out _ (HR.out.on W1.out.1.below)).mono ?_
  rintro e w2 ⟨rfl, rfl⟩
  clear c0 c1 c2 c3 c4 c5 c6
  have P2 : Hid (MdS w (w1.alloc (.cells s.cells 48)) s s m ∧ Blk (w1.alloc (.cells s.cells 48)) (w.heap.size + 3) 48 s.cells) := ⟨W1.out.1.next ((Below.refl _ _).alloc (Nat.le_refl _) _), Blk.newAt _ _ _ W1.out.2⟩
  rw [W1.out.2]
  generalize w1.alloc (.cells s.cells 48) = w2 at P2 ⊢
  clear W1 HW1
  go_wp2_with fail
  go_loopw [13] (fun k wr => ∃ (j : Nat) (z : Int), j ≤ 3 ∧ z = (j : Int) ∧ k = .int .i64 z ∧ Hid (MdS w wr s (mixQ s (mkP m s.p) (mkP m s.q) (mkP m s.r) j) m ∧ Blk wr (w.heap.size + 3) 48 s.cells ∧ ((s.pts.take j).all fun p => apOk m p.1 p.2) = true)) (fun k _ => 4 - (intOf k).toNat)
  case atStart => exact ⟨0, 0, by omega, rfl, rfl, P2.out.1, P2.out.2, rfl⟩
  case round =>
    obtain ⟨j, z, hj, hz, rfl, hx⟩ := hrel
    rcases (by omega : j = 0 ∨ j = 1 ∨ j = 2 ∨ j = 3) with rfl | rfl | rfl | rfl
    · obtain rfl : z = 0 := by omega
      clear hz hj
      obtain ⟨⟨px, py⟩, hp⟩ : ∃ a, s.p = a := ⟨_, rfl⟩
      have kp := hx.out.2.1
      have km := hx.out.1.km
      have x0 : wr.cell? ⟨w.heap.size + 3, 1, none⟩ = some (.int .i64 px) := by have := kp.s1; rw [hp] at this; exact this
      have x1 : wr.cell? ⟨w.heap.size + 3, 2, none⟩ = some (.int .i64 py) := by have := kp.s2; rw [hp] at this; exact this
      have m0 := km.m0
      have m1 := km.m1
      have m2 := km.m2
      have m3 := km.m3
      have m4 := km.m4
      have m5 := km.m5
      have lm := km.lt
      have lp := kp.lt
      have HP := Lib.hid hp
      have HM3 : Hid (MdS w (wr.alloc (.cells (two (px, py)) 44)) s (mixQ s (mkP m s.p) (mkP m s.q) (mkP m s.r) 0) m ∧ Blk (wr.alloc (.cells (two (px, py)) 44)) (w.heap.size + 3) 48 s.cells) := ⟨hx.out.1.next ((Below.refl _ _).alloc (Nat.le_refl _) _), kp.alloc _⟩
      clear kp km hp
      cases hk : apOk m px py
      · have HKK := Lib.hid hk
        have HAP := Lib.hid (apply_no m px py hk)
        clear hk
        have hbad : Hid (madeA m s = zSg ∧ madeE m s = 10) := made_bad HNP.out (i := 0) (by decide) rfl (by rw [HP.out]; exact HKK.out)
        go_wp2_with fail
        refine (HAP.out _).mono ?_
        rintro e w5 ⟨rfl, hb⟩
        have S5 : Hid (MdS w (w5.alloc (.cells (two (0, 0)) 44)) s (mixQ s (mkP m s.p) (mkP m s.q) (mkP m s.r) 0) m) := (HM3.out.1.next hb).next ((Below.refl _ _).alloc (Nat.le_refl _) _)
        clear hb x0 x1 m0 m1 m2 m3 m4 m5 lm lp
        go_upto_if 25 with fail
        obtain ⟨w6, hw6⟩ : ∃ W, w5.alloc (.cells (two (0, 0)) 44) = W := ⟨_, rfl⟩
        rw [hw6] at S5
        rw [show w5.alloc (.cells #[.int .i64 0, .int .i64 0] 44) = w6 from hw6]
        clear hw6
        have kz := S5.out.kz
        have z0 : w6.cell? ⟨w.heap.size + 1 + 1, 0, none⟩ = some (.int .i64 0) := kz.s0
        have z1 : w6.cell? ⟨w.heap.size + 1 + 1, 1, none⟩ = some (.int .i64 0) := kz.s1
        have z2 : w6.cell? ⟨w.heap.size + 1 + 1, 2, none⟩ = some (.int .i64 0) := kz.s2
        have z3 : w6.cell? ⟨w.heap.size + 1 + 1, 3, none⟩ = some (.int .i64 0) := kz.s3
        have z4 : w6.cell? ⟨w.heap.size + 1 + 1, 4, none⟩ = some (.int .i64 0) := kz.s4
        have z5 : w6.cell? ⟨w.heap.size + 1 + 1, 5, none⟩ = some (.int .i64 0) := kz.s5
        have z6 : w6.cell? ⟨w.heap.size + 1 + 1, 6, none⟩ = some (.int .i64 0) := kz.s6
        have f0 := fun j => kz.free j
        have l0 := kz.lt
        clear kz
        go_wp2_with fail
        clear z0 z1 z2 z3 z4 z5 z6 f0 l0
        rw [hbad.out.1, hbad.out.2]
        exact bodyPost_ret (results_made 4 5 rfl rfl rfl (S5.out.kz.setS zSg)) rfl ⟨rfl, below_seven S5.out.below (by omega) _ _ _ _ _ _ _⟩
      · have HKK := Lib.hid hk
        obtain ⟨⟨X, Y⟩, hXY⟩ : ∃ q, mkP m s.p = q := ⟨_, rfl⟩
        have HAP := Lib.hid (apply_to m px py X Y hk (by rw [← HP.out]; exact hXY))
        have HXY := Lib.hid hXY
        clear hk hXY
        have NXT : Hid ((((s.pts.take 1).all fun p => apOk m p.1 p.2)) = true) := all_take hx.out.2.2 (show s.pts[0]? = some s.p from rfl) (by rw [HP.out]; exact HKK.out)
        go_wp2_with fail
        refine (HAP.out _).mono ?_
        rintro e w5 ⟨rfl, hb⟩
        have S5 : Hid (MdS w (w5.alloc (.cells (two (X, Y)) 44)) s (mixQ s (mkP m s.p) (mkP m s.q) (mkP m s.r) 0) m ∧ Blk (w5.alloc (.cells (two (X, Y)) 44)) (w.heap.size + 3) 48 s.cells ∧ Blk (w5.alloc (.cells (two (X, Y)) 44)) w5.heap.size 44 (two (X, Y))) := ⟨(HM3.out.1.next hb).next ((Below.refl _ _).alloc (Nat.le_refl _) _), (HM3.out.2.grow hb).alloc _, Blk.new _ _ _⟩
        clear hb x0 x1 m0 m1 m2 m3 m4 m5 lm lp
        go_upto_if 25 with fail
        obtain ⟨w6, hw6⟩ : ∃ W, w5.alloc (.cells (two (X, Y)) 44) = W := ⟨_, rfl⟩
        rw [hw6] at S5
        rw [show w5.alloc (.cells #[.int .i64 X, .int .i64 Y] 44) = w6 from hw6]
        clear hw6
        have ks := S5.out.1.ks
        have kq := S5.out.2.2
        have q0 := kq.p0
        have q1 := kq.p1
        have y0 := ks.s1
        have y1 := ks.s2
        have f0 := ks.free 1
        have f1 := ks.free 2
        have l0 := ks.lt
        have NX : Hid (MdS w ((w6.setCell ⟨w.heap.size, 1, none⟩ (.int .i64 X)).setCell ⟨w.heap.size, 2, none⟩ (.int .i64 Y)) s (mixQ s (mkP m s.p) (mkP m s.q) (mkP m s.r) 1) m ∧ Blk ((w6.setCell ⟨w.heap.size, 1, none⟩ (.int .i64 X)).setCell ⟨w.heap.size, 2, none⟩ (.int .i64 Y)) (w.heap.size + 3) 48 s.cells ∧ ((s.pts.take 1).all fun p => apOk m p.1 p.2) = true) := by
          have ex : X = (mkP m s.p).1 := by rw [HXY.out]
          have ey : Y = (mkP m s.p).2 := by rw [HXY.out]
          rw [ex, ey]
          exact ⟨⟨(S5.out.1.below.setCell (Nat.le_refl _) _).setCell (Nat.le_refl _) _, mix_set0 ks, (S5.out.1.km.other _ _ (by dsimp only; omega)).other _ _ (by dsimp only; omega), (S5.out.1.kz.other _ _ (by dsimp only; omega)).other _ _ (by dsimp only; omega)⟩, (S5.out.2.1.other _ _ (by dsimp only; omega)).other _ _ (by dsimp only; omega), NXT.out⟩
        clear ks kq
        go_wp2_with fail
        exact ⟨⟨1, 1, by omega, by decide, by simp, NX.out⟩, by simp [intOf]⟩
    · obtain rfl : z = 1 := by omega
      clear hz hj
      obtain ⟨⟨px, py⟩, hp⟩ : ∃ a, s.q = a := ⟨_, rfl⟩
      have kp := hx.out.2.1
      have km := hx.out.1.km
      have x0 : wr.cell? ⟨w.heap.size + 3, 3, none⟩ = some (.int .i64 px) := by have := kp.s3; rw [hp] at this; exact this
      have x1 : wr.cell? ⟨w.heap.size + 3, 4, none⟩ = some (.int .i64 py) := by have := kp.s4; rw [hp] at this; exact this
      have m0 := km.m0
      have m1 := km.m1
      have m2 := km.m2
      have m3 := km.m3
      have m4 := km.m4
      have m5 := km.m5
      have lm := km.lt
      have lp := kp.lt
      have HP := Lib.hid hp
      have HM3 : Hid (MdS w (wr.alloc (.cells (two (px, py)) 44)) s (mixQ s (mkP m s.p) (mkP m s.q) (mkP m s.r) 1) m ∧ Blk (wr.alloc (.cells (two (px, py)) 44)) (w.heap.size + 3) 48 s.cells) := ⟨hx.out.1.next ((Below.refl _ _).alloc (Nat.le_refl _) _), kp.alloc _⟩
      clear kp km hp
      cases hk : apOk m px py
      · have HKK := Lib.hid hk
        have HAP := Lib.hid (apply_no m px py hk)
        clear hk
        have hbad : Hid (madeA m s = zSg ∧ madeE m s = 10) := made_bad HNP.out (i := 1) (by decide) rfl (by rw [HP.out]; exact HKK.out)
        go_wp2_with fail
        refine (HAP.out _).mono ?_
        rintro e w5 ⟨rfl, hb⟩
        have S5 : Hid (MdS w (w5.alloc (.cells (two (0, 0)) 44)) s (mixQ s (mkP m s.p) (mkP m s.q) (mkP m s.r) 1) m) := (HM3.out.1.next hb).next ((Below.refl _ _).alloc (Nat.le_refl _) _)
        clear hb x0 x1 m0 m1 m2 m3 m4 m5 lm lp
        go_upto_if 25 with fail
        obtain ⟨w6, hw6⟩ : ∃ W, w5.alloc (.cells (two (0, 0)) 44) = W := ⟨_, rfl⟩
        rw [hw6] at S5
        rw [show w5.alloc (.cells #[.int .i64 0, .int .i64 0] 44) = w6 from hw6]
        clear hw6
        have kz := S5.out.kz
        have z0 : w6.cell? ⟨w.heap.size + 1 + 1, 0, none⟩ = some (.int .i64 0) := kz.s0
        have z1 : w6.cell? ⟨w.heap.size + 1 + 1, 1, none⟩ = some (.int .i64 0) := kz.s1
        have z2 : w6.cell? ⟨w.heap.size + 1 + 1, 2, none⟩ = some (.int .i64 0) := kz.s2
        have z3 : w6.cell? ⟨w.heap.size + 1 + 1, 3, none⟩ = some (.int .i64 0) := kz.s3
        have z4 : w6.cell? ⟨w.heap.size + 1 + 1, 4, none⟩ = some (.int .i64 0) := kz.s4
        have z5 : w6.cell? ⟨w.heap.size + 1 + 1, 5, none⟩ = some (.int .i64 0) := kz.s5
        have z6 : w6.cell? ⟨w.heap.size + 1 + 1, 6, none⟩ = some (.int .i64 0) := kz.s6
        have f0 := fun j => kz.free j
        have l0 := kz.lt
        clear kz
        go_wp2_with fail
        clear z0 z1 z2 z3 z4 z5 z6 f0 l0
        rw [hbad.out.1, hbad.out.2]
        exact bodyPost_ret (results_made 4 5 rfl rfl rfl (S5.out.kz.setS zSg)) rfl ⟨rfl, below_seven S5.out.below (by omega) _ _ _ _ _ _ _⟩
      · have HKK := Lib.hid hk
        obtain ⟨⟨X, Y⟩, hXY⟩ : ∃ q, mkP m s.q = q := ⟨_, rfl⟩
        have HAP := Lib.hid (apply_to m px py X Y hk (by rw [← HP.out]; exact hXY))
        have HXY := Lib.hid hXY
        clear hk hXY
        have NXT : Hid ((((s.pts.take 2).all fun p => apOk m p.1 p.2)) = true) := all_take hx.out.2.2 (show s.pts[1]? = some s.q from rfl) (by rw [HP.out]; exact HKK.out)
        go_wp2_with fail
        refine (HAP.out _).mono ?_
        rintro e w5 ⟨rfl, hb⟩
        have S5 : Hid (MdS w (w5.alloc (.cells (two (X, Y)) 44)) s (mixQ s (mkP m s.p) (mkP m s.q) (mkP m s.r) 1) m ∧ Blk (w5.alloc (.cells (two (X, Y)) 44)) (w.heap.size + 3) 48 s.cells ∧ Blk (w5.alloc (.cells (two (X, Y)) 44)) w5.heap.size 44 (two (X, Y))) := ⟨(HM3.out.1.next hb).next ((Below.refl _ _).alloc (Nat.le_refl _) _), (HM3.out.2.grow hb).alloc _, Blk.new _ _ _⟩
        clear hb x0 x1 m0 m1 m2 m3 m4 m5 lm lp
        go_upto_if 25 with fail
        obtain ⟨w6, hw6⟩ : ∃ W, w5.alloc (.cells (two (X, Y)) 44) = W := ⟨_, rfl⟩
        rw [hw6] at S5
        rw [show w5.alloc (.cells #[.int .i64 X, .int .i64 Y] 44) = w6 from hw6]
        clear hw6
        have ks := S5.out.1.ks
        have kq := S5.out.2.2
        have q0 := kq.p0
        have q1 := kq.p1
        have y0 := ks.s3
        have y1 := ks.s4
        have f0 := ks.free 3
        have f1 := ks.free 4
        have l0 := ks.lt
        have NX : Hid (MdS w ((w6.setCell ⟨w.heap.size, 3, none⟩ (.int .i64 X)).setCell ⟨w.heap.size, 4, none⟩ (.int .i64 Y)) s (mixQ s (mkP m s.p) (mkP m s.q) (mkP m s.r) 2) m ∧ Blk ((w6.setCell ⟨w.heap.size, 3, none⟩ (.int .i64 X)).setCell ⟨w.heap.size, 4, none⟩ (.int .i64 Y)) (w.heap.size + 3) 48 s.cells ∧ ((s.pts.take 2).all fun p => apOk m p.1 p.2) = true) := by
          have ex : X = (mkP m s.q).1 := by rw [HXY.out]
          have ey : Y = (mkP m s.q).2 := by rw [HXY.out]
          rw [ex, ey]
          exact ⟨⟨(S5.out.1.below.setCell (Nat.le_refl _) _).setCell (Nat.le_refl _) _, mix_set1 ks, (S5.out.1.km.other _ _ (by dsimp only; omega)).other _ _ (by dsimp only; omega), (S5.out.1.kz.other _ _ (by dsimp only; omega)).other _ _ (by dsimp only; omega)⟩, (S5.out.2.1.other _ _ (by dsimp only; omega)).other _ _ (by dsimp only; omega), NXT.out⟩
        clear ks kq
        go_wp2_with fail
        exact ⟨⟨2, 2, by omega, by decide, by simp, NX.out⟩, by simp [intOf]⟩
    · obtain rfl : z = 2 := by omega
      clear hz hj
      obtain ⟨⟨px, py⟩, hp⟩ : ∃ a, s.r = a := ⟨_, rfl⟩
      have kp := hx.out.2.1
      have km := hx.out.1.km
      have x0 : wr.cell? ⟨w.heap.size + 3, 5, none⟩ = some (.int .i64 px) := by have := kp.s5; rw [hp] at this; exact this
      have x1 : wr.cell? ⟨w.heap.size + 3, 6, none⟩ = some (.int .i64 py) := by have := kp.s6; rw [hp] at this; exact this
      have m0 := km.m0
      have m1 := km.m1
      have m2 := km.m2
      have m3 := km.m3
      have m4 := km.m4
      have m5 := km.m5
      have lm := km.lt
      have lp := kp.lt
      have HP := Lib.hid hp
      have HM3 : Hid (MdS w (wr.alloc (.cells (two (px, py)) 44)) s (mixQ s (mkP m s.p) (mkP m s.q) (mkP m s.r) 2) m ∧ Blk (wr.alloc (.cells (two (px, py)) 44)) (w.heap.size + 3) 48 s.cells) := ⟨hx.out.1.next ((Below.refl _ _).alloc (Nat.le_refl _) _), kp.alloc _⟩
      clear kp km hp
      cases hk : apOk m px py
      · have HKK := Lib.hid hk
        have HAP := Lib.hid (apply_no m px py hk)
        clear hk
        have hbad : Hid (madeA m s = zSg ∧ madeE m s = 10) := made_bad HNP.out (i := 2) (by decide) rfl (by rw [HP.out]; exact HKK.out)
        go_wp2_with fail
        refine (HAP.out _).mono ?_
        rintro e w5 ⟨rfl, hb⟩
        have S5 : Hid (MdS w (w5.alloc (.cells (two (0, 0)) 44)) s (mixQ s (mkP m s.p) (mkP m s.q) (mkP m s.r) 2) m) := (HM3.out.1.next hb).next ((Below.refl _ _).alloc (Nat.le_refl _) _)
        clear hb x0 x1 m0 m1 m2 m3 m4 m5 lm lp
        go_upto_if 25 with fail
        obtain ⟨w6, hw6⟩ : ∃ W, w5.alloc (.cells (two (0, 0)) 44) = W := ⟨_, rfl⟩
        rw [hw6] at S5
        rw [show w5.alloc (.cells #[.int .i64 0, .int .i64 0] 44) = w6 from hw6]
        clear hw6
        have kz := S5.out.kz
        have z0 : w6.cell? ⟨w.heap.size + 1 + 1, 0, none⟩ = some (.int .i64 0) := kz.s0
        have z1 : w6.cell? ⟨w.heap.size + 1 + 1, 1, none⟩ = some (.int .i64 0) := kz.s1
        have z2 : w6.cell? ⟨w.heap.size + 1 + 1, 2, none⟩ = some (.int .i64 0) := kz.s2
        have z3 : w6.cell? ⟨w.heap.size + 1 + 1, 3, none⟩ = some (.int .i64 0) := kz.s3
        have z4 : w6.cell? ⟨w.heap.size + 1 + 1, 4, none⟩ = some (.int .i64 0) := kz.s4
        have z5 : w6.cell? ⟨w.heap.size + 1 + 1, 5, none⟩ = some (.int .i64 0) := kz.s5
        have z6 : w6.cell? ⟨w.heap.size + 1 + 1, 6, none⟩ = some (.int .i64 0) := kz.s6
        have f0 := fun j => kz.free j
        have l0 := kz.lt
        clear kz
        go_wp2_with fail
        clear z0 z1 z2 z3 z4 z5 z6 f0 l0
        rw [hbad.out.1, hbad.out.2]
        exact bodyPost_ret (results_made 4 5 rfl rfl rfl (S5.out.kz.setS zSg)) rfl ⟨rfl, below_seven S5.out.below (by omega) _ _ _ _ _ _ _⟩
      · have HKK := Lib.hid hk
        obtain ⟨⟨X, Y⟩, hXY⟩ : ∃ q, mkP m s.r = q := ⟨_, rfl⟩
        have HAP := Lib.hid (apply_to m px py X Y hk (by rw [← HP.out]; exact hXY))
        have HXY := Lib.hid hXY
        clear hk hXY
        have NXT : Hid ((((s.pts.take 3).all fun p => apOk m p.1 p.2)) = true) := all_take hx.out.2.2 (show s.pts[2]? = some s.r from rfl) (by rw [HP.out]; exact HKK.out)
        go_wp2_with fail
        refine (HAP.out _).mono ?_
        rintro e w5 ⟨rfl, hb⟩
        have S5 : Hid (MdS w (w5.alloc (.cells (two (X, Y)) 44)) s (mixQ s (mkP m s.p) (mkP m s.q) (mkP m s.r) 2) m ∧ Blk (w5.alloc (.cells (two (X, Y)) 44)) (w.heap.size + 3) 48 s.cells ∧ Blk (w5.alloc (.cells (two (X, Y)) 44)) w5.heap.size 44 (two (X, Y))) := ⟨(HM3.out.1.next hb).next ((Below.refl _ _).alloc (Nat.le_refl _) _), (HM3.out.2.grow hb).alloc _, Blk.new _ _ _⟩
        clear hb x0 x1 m0 m1 m2 m3 m4 m5 lm lp
        go_upto_if 25 with fail
        obtain ⟨w6, hw6⟩ : ∃ W, w5.alloc (.cells (two (X, Y)) 44) = W := ⟨_, rfl⟩
        rw [hw6] at S5
        rw [show w5.alloc (.cells #[.int .i64 X, .int .i64 Y] 44) = w6 from hw6]
        clear hw6
        have ks := S5.out.1.ks
        have kq := S5.out.2.2
        have q0 := kq.p0
        have q1 := kq.p1
        have y0 := ks.s5
        have y1 := ks.s6
        have f0 := ks.free 5
        have f1 := ks.free 6
        have l0 := ks.lt
        have NX : Hid (MdS w ((w6.setCell ⟨w.heap.size, 5, none⟩ (.int .i64 X)).setCell ⟨w.heap.size, 6, none⟩ (.int .i64 Y)) s (mixQ s (mkP m s.p) (mkP m s.q) (mkP m s.r) 3) m ∧ Blk ((w6.setCell ⟨w.heap.size, 5, none⟩ (.int .i64 X)).setCell ⟨w.heap.size, 6, none⟩ (.int .i64 Y)) (w.heap.size + 3) 48 s.cells ∧ ((s.pts.take 3).all fun p => apOk m p.1 p.2) = true) := by
          have ex : X = (mkP m s.r).1 := by rw [HXY.out]
          have ey : Y = (mkP m s.r).2 := by rw [HXY.out]
          rw [ex, ey]
          exact ⟨⟨(S5.out.1.below.setCell (Nat.le_refl _) _).setCell (Nat.le_refl _) _, mix_set2 ks, (S5.out.1.km.other _ _ (by dsimp only; omega)).other _ _ (by dsimp only; omega), (S5.out.1.kz.other _ _ (by dsimp only; omega)).other _ _ (by dsimp only; omega)⟩, (S5.out.2.1.other _ _ (by dsimp only; omega)).other _ _ (by dsimp only; omega), NXT.out⟩
        clear ks kq
        go_wp2_with fail
        exact ⟨⟨3, 3, by omega, by decide, by simp, NX.out⟩, by simp [intOf]⟩
    · obtain rfl : z = 3 := by omega
      clear hz hj
      have hgood : Hid (madeA m s = mixQ s (mkP m s.p) (mkP m s.q) (mkP m s.r) 3 ∧ madeE m s = 0) := made_good HK.out hx.out.2.2
      obtain ⟨A, hA⟩ : ∃ A : Sg, mixQ s (mkP m s.p) (mkP m s.q) (mkP m s.r) 3 = A := ⟨_, rfl⟩
      rw [hA] at hgood
      have S5 : Hid (MdS w wr s A m) := by rw [← hA]; exact hx.out.1
      clear hA hx
      have ks := S5.out.ks
      have kz := S5.out.kz
      have a0 := ks.s0
      have a1 := ks.s1
      have a2 := ks.s2
      have a3 := ks.s3
      have a4 := ks.s4
      have a5 := ks.s5
      have a6 := ks.s6
      have z0 : wr.cell? ⟨w.heap.size + 1 + 1, 0, none⟩ = some (.int .i64 0) := kz.s0
      have z1 : wr.cell? ⟨w.heap.size + 1 + 1, 1, none⟩ = some (.int .i64 0) := kz.s1
      have z2 : wr.cell? ⟨w.heap.size + 1 + 1, 2, none⟩ = some (.int .i64 0) := kz.s2
      have z3 : wr.cell? ⟨w.heap.size + 1 + 1, 3, none⟩ = some (.int .i64 0) := kz.s3
      have z4 : wr.cell? ⟨w.heap.size + 1 + 1, 4, none⟩ = some (.int .i64 0) := kz.s4
      have z5 : wr.cell? ⟨w.heap.size + 1 + 1, 5, none⟩ = some (.int .i64 0) := kz.s5
      have z6 : wr.cell? ⟨w.heap.size + 1 + 1, 6, none⟩ = some (.int .i64 0) := kz.s6
      have f0 := fun j => kz.free j
      have l0 := kz.lt
      have l1 := ks.lt
      clear ks kz
      go_wp2_with fail
      clear a0 a1 a2 a3 a4 a5 a6 z0 z1 z2 z3 z4 z5 z6 f0 l0 l1
      rw [hgood.out.1, hgood.out.2]
      exact bodyPost_ret (results_made 4 5 rfl rfl rfl (S5.out.kz.setS A)) rfl ⟨rfl, below_seven S5.out.below (by omega) _ _ _ _ _ _ _⟩
theorem made_c (s : Sg) (m : Mx) (w : World) (hr : Rd w) :
    Calls Tryd.prog 47 #[.agg (seven s.k s.p s.q s.r), .agg (six m)] w fun e w' => e = .returned (.tuple #[.agg (madeA m s).cells, .int .i64 (madeE m s)]) ∧ Below w.heap.size w w' := by
  have h3 := needI_le s.k
  rcases (by omega : needI s.k = 0 ∨ needI s.k = 1 ∨ needI s.k = 2 ∨ needI s.k = 3) with h | h | h | h
  · exact made_0 s m w hr h
  · exact made_1 s m w hr h
  · exact made_2 s m w hr h
  · exact made_3 s m w hr h
end Go.Proofs.YtffgpikhahpomaaDoor
