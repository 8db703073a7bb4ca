/- Layer 6: the law PathApplies: the walk. -/
import Derived.Test.YtffgpikhahpomaaDoorMg
import Derived.BigQuiet
import Derived.Deep.CutBlock
namespace Go.Proofs.YtffgpikhahpomaaDoor
open Go.RowKit
theorem ycells {W : World} {b k i : Nat} {Y : List Sg} {s : Sg} (h : SegsAt W b 0 Y) (hk : Y[k]? = some s) (hi : i < 3) : W.cell? ⟨b, k * 7 + 1 + i * 2, none⟩ = some (.int .i64 (s.pts.getD i (0, 0)).1) ∧ W.cell? ⟨b, k * 7 + 1 + i * 2 + 1, none⟩ = some (.int .i64 (s.pts.getD i (0, 0)).2) := by
  have e : ∀ j, 0 + k * 7 + j = k * 7 + j := fun j => by omega
  rcases (by omega : i = 0 ∨ i = 1 ∨ i = 2) with rfl | rfl | rfl
  · have h1 := h.c1 hk
    have h2 := h.c2 hk
    rw [e] at h1 h2
    exact ⟨h1, h2⟩
  · have h1 := h.c3 hk
    have h2 := h.c4 hk
    rw [e] at h1 h2
    exact ⟨h1, h2⟩
  · have h1 := h.c5 hk
    have h2 := h.c6 hk
    rw [e] at h1 h2
    exact ⟨h1, h2⟩
theorem own_ne {W : World} {base g : Nat} {t t' : TypeId} {v : Value} {L : List Pt} {cs : Array Value} (h : Own W base t v L) (hk : Blk W g t' cs) (hne : t ≠ t') : v.ownBlock ≠ some g := fun e => by
  obtain ⟨_, ⟨rfl, _⟩ | ⟨g', cap, cur, rfl, _, hg, _⟩⟩ := h
  · cases e
  · cases e
    unfold Blk at hk
    rw [hg] at hk
    simp at hk
    exact hne hk.2
set_option maxHeartbeats 8000000 in
set_option maxRecDepth 100000 in
theorem applies_walk (ao : Option Addr) (n c : Nat) (l : List Sg) (m : Mx) (w : World) (HA : Hid (Rd w ∧ RowS w (.slice ao n c) l ∧ l.length = n ∧ n ≤ 100)) (zA : Int) (QL : List Sg) (rn : Bool) (XX : Bx)
    (HX : Hid (checkI l = 0 ∧ applyI m l = (zA, QL))) (HRT : Hid (∀ W, Calls Tryd.prog 28 #[.agg #[.int .i64 m.a, .int .i64 m.b, .int .i64 m.c, .int .i64 m.d, .int .i64 m.e, .int .i64 m.f]] W fun e w' => e = .returned (.bool (!rn)) ∧ Below W.heap.size W w'))
    (HFIN : Hid (((rn || !l.all (madeOk m)) = true → zA = 10 ∧ QL = []) ∧ ((rn || !l.all (madeOk m)) = false → zA = 0 ∧ QL = l.map (madeX m))))
    (HPB : Hid (∀ W, Below w.heap.size w W → Calls Tryd.prog 30 #[.slice ao n c] W fun e w' => e = .returned (.agg #[.int .i64 XX.x0, .int .i64 XX.y0, .int .i64 XX.x1, .int .i64 XX.y1]) ∧ Below W.heap.size W w'))
    (HGB : Hid (∀ W v, Row W v (l.flatMap needPts) → Calls Tryd.prog 31 #[v] W fun e w' => e = .returned (.agg #[.int .i64 XX.x0, .int .i64 XX.y0, .int .i64 XX.x1, .int .i64 XX.y1]) ∧ Below W.heap.size W w')) : Calls Tryd.prog 7 #[.slice ao n c, .agg (six m)] w fun e w' => e = .returned (.bool true) ∧ Below w.heap.size w w' := by
  have HW2 : Hid (∀ W ta tc, RowS W (.slice ta n tc) l → Calls Tryd.prog 23 #[.slice ta n tc, .int .i64 0, .int .i64 0, .slice none 0 0] W fun e w' => ∃ u, e = .returned u ∧ OwnS w' W.heap.size 60 u l ∧ Below W.heap.size W w') := fun W ta tc h1 => by
    have h := with_c ta n tc 0 0 l _ [] W h1 (.inl ⟨rfl, rfl⟩) (by omega) (by have := HA.out.2.2.2; simp; omega)
    refine h.mono ?_
    rintro e w' ⟨u, rfl, ho, hb⟩
    refine ⟨u, rfl, ?_, hb⟩
    simpa using ho
  have HR := Lib.hid HA.out.1
  have HROW := Lib.hid HA.out.2.1
  have HN := Lib.hid HA.out.2.2.1
  have hn1 := HA.out.2.2.2
  have hgt : decide ((n : Int) > 100) = false := decide_eq_false (by omega)
  clear hn1
  have HREF : Hid (∀ W v L, L.length ≤ 5000 → RowS W v L → Calls Tryd.prog 12 #[v] W fun e w' => ∃ u, e = .returned u ∧ OwnS w' W.heap.size 60 u L ∧ Below W.heap.size W w') := fun W v L h1 h2 => ref_c W v L h1 h2
  have HRC : Hid (∀ W v, RowS W v l → Calls Tryd.prog 11 #[v] W fun e w' => e = .returned (.int .i64 0) ∧ Below W.heap.size W w') := fun W v h => by have := rcheck_c v l W h; rw [HX.out.1] at this; exact this
  have HAPP : Hid (∀ W, Below w.heap.size w W → Calls Tryd.prog 27 #[.slice ao n c, .agg #[.int .i64 m.a, .int .i64 m.b, .int .i64 m.c, .int .i64 m.d, .int .i64 m.e, .int .i64 m.f]] W (ToldS W (zA, QL))) := fun W h => by have := papply_c ao n c m l W (HR.out.on h) (HROW.out.on h); rw [HX.out.2] at this; exact this
  obtain ⟨w0, hw0⟩ : ∃ w0, w.alloc (.cells (six m) 67) = w0 := ⟨_, rfl⟩
  have B0 : Hid (Below w.heap.size w w0 ∧ w.heap.size < w0.heap.size) := by rw [← hw0]; exact ⟨(Below.refl _ _).alloc (Nat.le_refl _) _, by simp⟩
  have K0 : Hid (Blk w0 w.heap.size 67 (six m)) := by rw [← hw0]; exact Blk.new _ _ _
  have HW0 := Lib.hid hw0
  clear hw0
  go_enter Tryd.func7, Tryd.ntmps7
  go_wp2_with fail
  rw [show w.alloc (.cells (six m) 67) = w0 from HW0.out]
  refine (HREF.out _ _ l (by have := HA.out.2.2; omega) (HROW.out.on B0.out.1)).mono ?_
  rintro e w1 ⟨u, rfl, ho, hb⟩
  have B1 : Hid (Below w.heap.size w w1 ∧ w.heap.size < w1.heap.size) := ⟨below_next B0.out.1 hb, Nat.lt_of_lt_of_le B0.out.2 hb.size⟩
  have K1 := Lib.hid (K0.out.grow hb)
  have HT0 := Lib.hid ho
  obtain ⟨ta, tc, rfl, _⟩ := ho.cap
  rw [HN.out] at HT0
  have T1 := Lib.hid HT0.out.row
  clear HT0 ho hb
  simp only [HN.out]
  have km := K1.out
  have m0 := km.m0
  have m1 := km.m1
  have m2 := km.m2
  have m3 := km.m3
  have m4 := km.m4
  have m5 := km.m5
  clear km
  go_wp2_with fail
  refine (HAPP.out _ B1.out.1).mono ?_
  rintro e w2 ⟨q, rfl, ho, hb⟩
  clear m0 m1 m2 m3 m4 m5
  have Q2 := Lib.hid ho.row
  clear ho
  have B2 : Hid (Below w.heap.size w w2 ∧ w.heap.size < w2.heap.size) := ⟨below_next B1.out.1 hb, Nat.lt_of_lt_of_le B1.out.2 hb.size⟩
  have K2 := Lib.hid (K1.out.grow hb)
  have T2 := Lib.hid (T1.out.on hb)
  clear hb
  go_wp2_with fail
  refine (HRC.out _ _ T2.out).mono ?_
  rintro e w3 ⟨rfl, hb⟩
  have B3 : Hid (Below w.heap.size w w3 ∧ w.heap.size < w3.heap.size) := ⟨below_next B2.out.1 hb, Nat.lt_of_lt_of_le B2.out.2 hb.size⟩
  have K3 := Lib.hid (K2.out.grow hb)
  have T3 := Lib.hid (T2.out.on hb)
  have Q3 := Lib.hid (Q2.out.on hb)
  clear hb
  have km := K3.out
  have m0 := km.m0
  have m1 := km.m1
  have m2 := km.m2
  have m3 := km.m3
  have m4 := km.m4
  have m5 := km.m5
  clear km
  go_wp2_with fail
  refine (HRT.out _).mono ?_
  rintro e w4 ⟨rfl, hb⟩
  have B4 : Hid (Below w.heap.size w w4 ∧ w.heap.size < w4.heap.size) := ⟨below_next B3.out.1 hb, Nat.lt_of_lt_of_le B3.out.2 hb.size⟩
  have K4 := Lib.hid (K3.out.grow hb)
  have T4 := Lib.hid (T3.out.on hb)
  have Q4 := Lib.hid (Q3.out.on hb)
  clear hb m0 m1 m2 m3 m4 m5
  go_wp2_with fail
  refine (HW2.out _ _ _ T4.out).mono ?_
  rintro e w5 ⟨y, rfl, ho, hb⟩
  have B5 : Hid (Below w.heap.size w w5 ∧ w.heap.size < w5.heap.size) := ⟨below_next B4.out.1 hb, Nat.lt_of_lt_of_le B4.out.2 hb.size⟩
  have Q5 := Lib.hid (Q4.out.on hb)
  have HT0 := Lib.hid ho
  obtain ⟨ya, yc, rfl, _⟩ := ho.cap
  rw [HN.out] at HT0
  have L5 : Hid (LwS w4 w.heap.size m ya n yc w5 (.slice none 0 0) [] l) := ⟨hb, K4.out.grow hb, B4.out.2, Own.nil _ _ _, HT0.out, HN.out⟩
  clear HT0 ho hb
  simp only [HN.out]
  go_wp2_with fail
  go_loopw [9, 10, 51] (fun rf v i wr => ∃ (k : Nat) (rb : Bool), k ≤ n ∧ rf = .bool rb ∧ i = .int .i64 k ∧ Hid (LwS w4 w.heap.size m ya n yc wr v ((l.take k).flatMap needPts) ((l.take k).map (madeX m) ++ l.drop k) ∧ rb = (rn || !(l.take k).all (madeOk m)))) (fun _ _ i _ => n - (intOf i).toNat)
  case atStart => exact ⟨0, rn, Nat.zero_le _, rfl, rfl, L5.out, by simp⟩
  case round =>
    obtain ⟨k, rb0, hk, rfl, rfl, hw⟩ := hrel
    obtain ⟨w6, rfl⟩ : ∃ x, x = wr := ⟨_, rfl⟩
    by_cases hlt : k < n
    · have hd : decide ((k : Int) < (n : Int)) = true := by simp; omega
      obtain ⟨b, o, rfl, hbs, hpa⟩ := RowS.addr HROW.out (k := k) (by rw [HN.out]; exact hlt)
      obtain ⟨s, hq⟩ : ∃ p, l[k]? = some p := ⟨_, List.getElem?_eq_getElem (by rw [HN.out]; exact hlt)⟩
      have hs := hpa.on (below_next B4.out.1 hw.out.1.below) hbs
      have c0 := hs.c0 hq
      have c1 := hs.c1 hq
      have c2 := hs.c2 hq
      have c3 := hs.c3 hq
      have c4 := hs.c4 hq
      have c5 := hs.c5 hq
      have c6 := hs.c6 hq
      have HQ := Lib.hid hq
      obtain ⟨ns, hns⟩ : ∃ ns, needI s.k = ns := ⟨_, rfl⟩
      have HNEED : Hid (∀ W, Calls Tryd.prog 14 #[.int .i64 s.k] W fun e w' => e = .returned (.int .i64 (ns : Nat)) ∧ W = w') := fun W => hns ▸ refNeed_c s.k W
      have HNS := Lib.hid hns
      have HN3 : Hid (ns ≤ 3) := hns ▸ needI_le s.k
      have hdrop : l.drop k = s :: l.drop (k + 1) := by
        rw [List.drop_eq_getElem_cons (by rw [HN.out]; exact hlt)]
        rw [List.getElem?_eq_getElem (by rw [HN.out]; exact hlt)] at hq
        rw [Option.some.inj hq]
      obtain ⟨gS, hgS⟩ : ∃ g, w6.heap.size = g := ⟨_, rfl⟩
      have L7 : Hid (LwS w4 w.heap.size m ya n yc (w6.alloc (.cells (seven s.k s.p s.q s.r) 48)) u10 ((l.take k).flatMap needPts ++ s.pts.take 0) ((l.take k).map (madeX m) ++ [mixQ s (resP m s.p) (resP m s.q) (resP m s.r) 0] ++ l.drop (k + 1))) := by
        have h := hw.out.1.grow ((Below.refl _ _).alloc (Nat.le_refl _) (.cells (seven s.k s.p s.q s.r) 48))
        rw [hdrop] at h
        have e1 : (l.take k).flatMap needPts ++ s.pts.take 0 = (l.take k).flatMap needPts := by simp
        have e2 : (l.take k).map (madeX m) ++ [mixQ s (resP m s.p) (resP m s.q) (resP m s.r) 0] ++ l.drop (k + 1) = (l.take k).map (madeX m) ++ s :: l.drop (k + 1) := by simp [mixQ]
        rw [e1, e2]
        exact h
      have KS7 : Hid (Blk (w6.alloc (.cells (seven s.k s.p s.q s.r) 48)) gS 48 s.cells) := Blk.newAt _ _ _ hgS
      have HRB6 := Lib.hid hw.out.2
      have HKN := Lib.hid hk
      clear hpa hq hbs hs hdrop hns
      go_wp2_with fail
      refine (HNEED.out _).mono ?_
      rintro e w7 ⟨rfl, rfl⟩
      rw [show w6.alloc (.cells #[.int .i64 s.k, .int .i64 s.p.1, .int .i64 s.p.2, .int .i64 s.q.1, .int .i64 s.q.2, .int .i64 s.r.1, .int .i64 s.r.2] 48) = w6.alloc (.cells (seven s.k s.p s.q s.r) 48) from rfl]
      generalize w6.alloc (.cells (seven s.k s.p s.q s.r) 48) = w7 at L7 KS7 ⊢
      clear c0 c1 c2 c3 c4 c5 c6 hgS hw hk
      go_wp2_with fail
      go_loopw [9, 10, 59] (fun rf v j wr => ∃ (i : Nat) (rb : Bool), i ≤ ns ∧ rf = .bool rb ∧ j = .int .i64 i ∧ Hid (LwS w4 w.heap.size m ya n yc wr v ((l.take k).flatMap needPts ++ s.pts.take i) ((l.take k).map (madeX m) ++ [mixQ s (resP m s.p) (resP m s.q) (resP m s.r) i] ++ l.drop (k + 1)) ∧ Blk wr gS 48 s.cells ∧ rb = (rb0 || !((s.pts.take i).all fun p => apOk m p.1 p.2)))) (fun _ _ j _ => ns - (intOf j).toNat)
      case atStart => exact ⟨0, rb0, Nat.zero_le _, rfl, rfl, L7.out, KS7.out, by simp⟩
      case round =>
        obtain ⟨i, rb, hi, rfl, rfl, hx⟩ := hrel
        by_cases hin : i < ns
        · have hdi : decide ((i : Int) < (ns : Int)) = true := decide_eq_true (by omega)
          have hn3 := HN3.out
          have hi3 : i < 3 := by omega
          have HI3 := Lib.hid hi3
          obtain ⟨⟨px, py⟩, hq⟩ : ∃ a, s.pts[i]? = some a := ⟨_, List.getElem?_eq_getElem (by simp [Sg.pts]; omega)⟩
          obtain ⟨p0, p1⟩ := (seven_pts hx.out.2.1) i (px, py) hq
          simp only at p0 p1
          have HPQ := Lib.hid hq
          have HRB0 := Lib.hid hx.out.2.2
          have hwi : wrap64 ((i : Int) + 1) = ((i + 1 : Nat) : Int) := by rw [wrapR _ (by omega) (by omega)]; omega
          have hPl : ((l.take k).flatMap needPts).length ≤ 3 * k := Nat.le_trans (flat_len (l.take k)) (by rw [List.length_take]; omega)
          have O4 : Hid (LwS w4 w.heap.size m ya n yc (wr.alloc (.cells #[.int .i64 px, .int .i64 py] 44)) u10 ((l.take k).flatMap needPts ++ s.pts.take i) ((l.take k).map (madeX m) ++ [mixQ s (resP m s.p) (resP m s.q) (resP m s.r) i] ++ l.drop (k + 1))) := hx.out.1.grow ((Below.refl _ _).alloc (Nat.le_refl _) _)
          have KS4 : Hid (Blk (wr.alloc (.cells #[.int .i64 px, .int .i64 py] 44)) gS 48 s.cells) := hx.out.2.1.alloc _
          have Y4 : Hid (Row (wr.alloc (.cells #[.int .i64 px, .int .i64 py] 44)) (.slice (some ⟨wr.heap.size, 0, none⟩) 1 1) [(px, py)]) := (Own.made wr (base := wr.heap.size) (Nat.le_refl _) 44 [(px, py)] _ 1 rfl rfl (by decide)).row
          obtain ⟨⟨X, Y⟩, hXY⟩ : ∃ q, resP m (px, py) = q := ⟨_, rfl⟩
          obtain ⟨E, hE⟩ : ∃ E : Int, (if apOk m px py = true then (0 : Int) else 10) = E := ⟨_, rfl⟩
          have HXY := Lib.hid hXY
          obtain ⟨eb, heb⟩ : ∃ b, (!apOk m px py) = b := ⟨_, rfl⟩
          have HEB := Lib.hid heb
          have hEb : (E != 0) = eb := by rw [← hE, ← heb]; cases apOk m px py <;> rfl
          have HAP : Hid (∀ W, Calls Tryd.prog 29 #[.agg #[.int .i64 m.a, .int .i64 m.b, .int .i64 m.c, .int .i64 m.d, .int .i64 m.e, .int .i64 m.f], .agg #[.int .i64 px, .int .i64 py]] W fun e w' => e = .returned (.tuple #[.agg #[.int .i64 X, .int .i64 Y], .int .i64 E]) ∧ Below W.heap.size W w') := fun W => by
            have h := apply_c m px py W
            have e1 : (if apOk m px py then apX m px py else 0) = X := by
              have h2 : (resP m (px, py)).1 = X := congrArg Prod.fst hXY
              unfold resP mkP at h2
              rw [← h2]
              cases apOk m px py <;> rfl
            have e2 : (if apOk m px py then apY m px py else 0) = Y := by
              have h2 : (resP m (px, py)).2 = Y := congrArg Prod.snd hXY
              unfold resP mkP at h2
              rw [← h2]
              cases apOk m px py <;> rfl
            rw [e1, e2, hE] at h
            exact h
          have HSZ := Lib.hid (Nat.succ_le_of_lt (Nat.lt_of_lt_of_le B5.out.2 (Nat.le_refl _)))
          have hkn := HKN.out
          have hn100 := HA.out.2.2.2
          clear hq hXY hE heb
          go_wp2_with (at_builtin; refine wpList_append_pts rfl _ _ 37 44 rfl Tryd.underlying37 infoP w4.heap.size u10 ((l.take k).flatMap needPts ++ s.pts.take i) rfl O4.out.all _ [(px, py)] rfl Y4.out (by simp only [List.length_append, List.length_take, List.length_cons, List.length_nil]; omega) O4.out.below.size ?_)
          intro v8 w8 hown hgrow _
          have L8 : Hid (LwS w4 w.heap.size m ya n yc w8 v8 ((l.take k).flatMap needPts ++ s.pts.take (i + 1)) ((l.take k).map (madeX m) ++ [mixQ s (resP m s.p) (resP m s.q) (resP m s.r) i] ++ l.drop (k + 1))) := by
            refine O4.out.append ?_ hgrow
            have e : (l.take k).flatMap needPts ++ s.pts.take (i + 1) = ((l.take k).flatMap needPts ++ s.pts.take i) ++ [(px, py)] := by rw [List.take_add_one, HPQ.out, List.append_assoc]; rfl
            rw [e, List.append_assoc]
            exact hown
          have KS8 : Hid (Blk w8 gS 48 s.cells) := by
            have h := KS4.out
            unfold Hid Blk
            rw [hgrow.block gS h.lt (fun e => own_ne O4.out.all h (by decide) e.symm)]
            exact h
          clear hown hgrow p0 p1 hPl hkn hn100
          go_wp2_with fail
          refine wp_region_put2 (by kernel_rfl) (by kernel_rfl) (by kernel_rfl) (fun b' vs w' => (b' 0 = true → vs 0 = .agg #[.int .i64 m.a, .int .i64 m.b, .int .i64 m.c, .int .i64 m.d, .int .i64 m.e, .int .i64 m.f]) ∧ (b' 1 = true → vs 1 = .int .i64 (i : Int)) ∧ (b' 2 = true → vs 2 = .pointer (some ⟨gS, 1, none⟩)) ∧ (b' 3 = true → vs 3 = .pointer (some ⟨gS, 1 + i * 2, none⟩)) ∧ (b' 4 = true → vs 4 = .agg #[.int .i64 px, .int .i64 py]) ∧ (b' 5 = true → vs 5 = .tuple #[.agg #[.int .i64 X, .int .i64 Y], .int .i64 E]) ∧ (b' 6 = true → vs 6 = .tuple #[.agg #[.int .i64 X, .int .i64 Y], .int .i64 E]) ∧ (b' 7 = true → vs 7 = .agg #[.int .i64 X, .int .i64 Y]) ∧ (b' 8 = true → vs 8 = .int .i64 E) ∧ (b' 11 = true → vs 11 = .int .i64 E) ∧ Hid (LayM w8 44 (two (0, 0)) [⟨9, 10, two (X, Y)⟩] b' vs w')) ?_ ?_ ?_
          · intro vs hvs
            exact ⟨fun h => Bool.noConfusion h, fun h => Bool.noConfusion h, fun h => Bool.noConfusion h, fun h => Bool.noConfusion h, fun h => Bool.noConfusion h, fun h => Bool.noConfusion h, fun h => Bool.noConfusion h, fun h => Bool.noConfusion h, fun h => Bool.noConfusion h, fun h => Bool.noConfusion h, LayM.start vs⟩
          · rintro b' vs w' i op hi hun hall ⟨h0, h1, h2, h3, h4, h5, h6, h7, h8, h11, hM⟩
            have hil : i < 12 := (List.getElem?_eq_some_iff.1 hi).1
            rcases i with _ | _ | _ | _ | _ | _ | _ | _ | _ | _ | _ | _ | i
            · obtain rfl := Option.some.inj hi
              have km := L8.out.km.grow (LayM.below hM.out)
              have m0 := km.m0
              have m1 := km.m1
              have m2 := km.m2
              have m3 := km.m3
              have m4 := km.m4
              have m5 := km.m5
              clear km
              refine wpOp_step rfl (fun K hK => ?_)
              have HKK := Lib.hid hK; clear hK
              simp only [putAll, Act.put, List.setIfInBounds_toArray, List.set_cons_zero, List.set_cons_succ]
              go_simp
              exact HKK.out _ _ ⟨_, by simp only [putAll, Act.put, List.setIfInBounds_toArray, List.set_cons_zero, List.set_cons_succ] <;> rfl, fun _ => rfl, h1, h2, h3, h4, h5, h6, h7, h8, h11, LayM.other hM.out 0 _ rfl⟩
            · obtain rfl := Option.some.inj hi
              refine wpOp_step rfl (fun K hK => ?_)
              have HKK := Lib.hid hK; clear hK
              simp only [putAll, Act.put, List.setIfInBounds_toArray, List.set_cons_zero, List.set_cons_succ]
              go_simp
              exact HKK.out _ _ ⟨_, by simp only [putAll, Act.put, List.setIfInBounds_toArray, List.set_cons_zero, List.set_cons_succ] <;> rfl, h0, fun _ => rfl, h2, h3, h4, h5, h6, h7, h8, h11, LayM.other hM.out 1 _ rfl⟩
            · obtain rfl := Option.some.inj hi
              refine wpOp_step rfl (fun K hK => ?_)
              have HKK := Lib.hid hK; clear hK
              simp only [putAll, Act.put, List.setIfInBounds_toArray, List.set_cons_zero, List.set_cons_succ]
              go_simp
              exact HKK.out _ _ ⟨_, by simp only [putAll, Act.put, List.setIfInBounds_toArray, List.set_cons_zero, List.set_cons_succ] <;> rfl, h0, h1, fun _ => rfl, h3, h4, h5, h6, h7, h8, h11, LayM.other hM.out 2 _ rfl⟩
            · obtain rfl := Option.some.inj hi
              have d2 := h2 (hall ⟨2, .data⟩ (by simp) rfl)
              have d1 := h1 (hall ⟨1, .data⟩ (by simp) rfl)
              have hi3i : (i : Int) < 3 := by have := HI3.out; omega
              refine wpOp_step rfl (fun K hK => ?_)
              have HKK := Lib.hid hK; clear hK
              simp only [putAll, Act.put, List.setIfInBounds_toArray, List.set_cons_zero, List.set_cons_succ, d2, d1]
              go_simp
              exact HKK.out _ _ ⟨_, by simp only [putAll, Act.put, List.setIfInBounds_toArray, List.set_cons_zero, List.set_cons_succ, d2, d1] <;> rfl, h0, h1, h2, fun _ => rfl, h4, h5, h6, h7, h8, h11, LayM.other hM.out 3 _ rfl⟩
            · obtain rfl := Option.some.inj hi
              have d3 := h3 (hall ⟨3, .data⟩ (by simp) rfl)
              have ks := KS8.out.grow (LayM.below hM.out)
              obtain ⟨p0, p1⟩ := (seven_pts ks) i (px, py) HPQ.out
              simp only at p0 p1
              clear ks
              refine wpOp_step rfl (fun K hK => ?_)
              have HKK := Lib.hid hK; clear hK
              simp only [putAll, Act.put, List.setIfInBounds_toArray, List.set_cons_zero, List.set_cons_succ, d3]
              go_simp
              exact HKK.out _ _ ⟨_, by simp only [putAll, Act.put, List.setIfInBounds_toArray, List.set_cons_zero, List.set_cons_succ, d3] <;> rfl, h0, h1, h2, h3, fun _ => rfl, h5, h6, h7, h8, h11, LayM.other hM.out 4 _ rfl⟩
            · obtain rfl := Option.some.inj hi
              have d0 := h0 (hall ⟨0, .data⟩ (by simp) rfl)
              have d4 := h4 (hall ⟨4, .data⟩ (by simp) rfl)
              refine wpOp_step rfl (fun K hK => ?_)
              have HKK := Lib.hid hK; clear hK
              simp only [putAll, Act.put, List.setIfInBounds_toArray, List.set_cons_zero, List.set_cons_succ, d0, d4]
              go_simp
              refine (HAP.out _).mono ?_
              rintro e w9 ⟨rfl, hb9⟩
              exact HKK.out _ _ ⟨_, by simp only [putAll, Act.put, List.setIfInBounds_toArray, List.set_cons_zero, List.set_cons_succ, d0, d4] <;> rfl, h0, h1, h2, h3, h4, fun _ => rfl, h6, h7, h8, h11, (LayM.other hM.out 5 _ rfl).grow hb9⟩
            · obtain rfl := Option.some.inj hi
              have d5 := h5 (hall ⟨5, .data⟩ (by simp) rfl)
              refine wpOp_step rfl (fun K hK => ?_)
              have HKK := Lib.hid hK; clear hK
              simp only [putAll, Act.put, List.setIfInBounds_toArray, List.set_cons_zero, List.set_cons_succ, d5]
              go_simp
              exact HKK.out _ _ ⟨_, by simp only [putAll, Act.put, List.setIfInBounds_toArray, List.set_cons_zero, List.set_cons_succ, d5] <;> rfl, h0, h1, h2, h3, h4, h5, fun _ => rfl, h7, h8, h11, LayM.other hM.out 6 _ rfl⟩
            · obtain rfl := Option.some.inj hi
              have d6 := h6 (hall ⟨6, .data⟩ (by simp) rfl)
              refine wpOp_step rfl (fun K hK => ?_)
              have HKK := Lib.hid hK; clear hK
              simp only [putAll, Act.put, List.setIfInBounds_toArray, List.set_cons_zero, List.set_cons_succ, d6]
              go_simp
              exact HKK.out _ _ ⟨_, by simp only [putAll, Act.put, List.setIfInBounds_toArray, List.set_cons_zero, List.set_cons_succ, d6] <;> rfl, h0, h1, h2, h3, h4, h5, h6, fun _ => rfl, h8, h11, LayM.other hM.out 7 _ rfl⟩
            · obtain rfl := Option.some.inj hi
              have d6 := h6 (hall ⟨6, .data⟩ (by simp) rfl)
              refine wpOp_step rfl (fun K hK => ?_)
              have HKK := Lib.hid hK; clear hK
              simp only [putAll, Act.put, List.setIfInBounds_toArray, List.set_cons_zero, List.set_cons_succ, d6]
              go_simp
              exact HKK.out _ _ ⟨_, by simp only [putAll, Act.put, List.setIfInBounds_toArray, List.set_cons_zero, List.set_cons_succ, d6] <;> rfl, h0, h1, h2, h3, h4, h5, h6, h7, fun _ => rfl, h11, LayM.other hM.out 8 _ rfl⟩
            · obtain rfl := Option.some.inj hi
              refine wpOp_step rfl (fun K hK => ?_)
              have HKK := Lib.hid hK; clear hK
              simp only [putAll, Act.put, List.setIfInBounds_toArray, List.set_cons_zero, List.set_cons_succ]
              go_simp
              exact HKK.out _ _ ⟨_, by simp only [putAll, Act.put, List.setIfInBounds_toArray, List.set_cons_zero, List.set_cons_succ] <;> rfl, h0, h1, h2, h3, h4, h5, h6, h7, h8, h11, LayM.made hM.out rfl ⟨9, 10, two (X, Y)⟩ (by simp) hun⟩
            · obtain rfl := Option.some.inj hi
              have d7 := h7 (hall ⟨7, .data⟩ (by simp) rfl)
              have dal := hall ⟨9, .data⟩ (by simp) rfl
              obtain ⟨g, eg, lg, kg⟩ := LayM.at hM.out ⟨9, 10, two (X, Y)⟩ (by simp) dal hun
              have c0 := kg.p0
              have c1 := kg.p1
              have f0 := kg.free 0
              have f1 := kg.free 1
              have lgw := kg.lt
              refine wpOp_step rfl (fun K hK => ?_)
              have HKK := Lib.hid hK; clear hK
              simp only [putAll, Act.put, List.setIfInBounds_toArray, List.set_cons_zero, List.set_cons_succ, d7, eg]
              go_simp
              exact HKK.out _ _ ⟨undef, by simp only [putAll, Act.put, List.setIfInBounds_toArray, List.set_cons_zero, List.set_cons_succ, d7, eg] <;> rfl, h0, h1, h2, h3, h4, h5, h6, h7, h8, h11, LayM.stored hM.out rfl ⟨9, 10, two (X, Y)⟩ (by simp) undef dal eg (below_two (LayM.below hM.out) lg _ _) (kg.setP _ _) (fun g2 cs hne k => k.otherP hne _ _)⟩
            · obtain rfl := Option.some.inj hi
              have d8 := h8 (hall ⟨8, .data⟩ (by simp) rfl)
              refine wpOp_step rfl (fun K hK => ?_)
              have HKK := Lib.hid hK; clear hK
              simp only [putAll, Act.put, List.setIfInBounds_toArray, List.set_cons_zero, List.set_cons_succ, d8]
              go_simp
              exact HKK.out _ _ ⟨_, by simp only [putAll, Act.put, List.setIfInBounds_toArray, List.set_cons_zero, List.set_cons_succ, d8] <;> rfl, h0, h1, h2, h3, h4, h5, h6, h7, h8, fun _ => rfl, LayM.other hM.out 11 _ rfl⟩
            · exact absurd hil (by omega)
          · rintro b' vs w' hb ⟨h0, h1, h2, h3, h4, h5, h6, h7, h8, h11, hM⟩
            obtain ⟨g15, e9, l9, k15⟩ := LayM.done hM.out ⟨9, 10, two (X, Y)⟩ (by simp) (hb 9 (by decide)) (hb 10 (by decide))
            have d11 := h11 (hb 11 (by decide))
            have hbw := LayM.below hM.out
            simp only [putAll, Act.put, List.setIfInBounds_toArray, List.set_cons_zero, List.set_cons_succ, e9, d11]
            have L9 := Lib.hid (L8.out.grow hbw)
            have KS9 := Lib.hid (KS8.out.grow hbw)
            have K15 := Lib.hid k15
            clear h0 h1 h2 h3 h4 h5 h6 h7 h8 h11 hM hb e9 d11 k15 hbw l9
            generalize vs 0 = r180
            generalize vs 1 = r181
            generalize vs 2 = r182
            generalize vs 3 = r183
            generalize vs 4 = r184
            generalize vs 5 = r185
            generalize vs 6 = r186
            generalize vs 7 = r187
            generalize vs 8 = r188
            obtain ⟨w9, hw9⟩ : ∃ W, w' = W := ⟨_, rfl⟩
            rw [hw9] at L9 KS9 K15 ⊢
            clear hw9
            obtain ⟨yb, rfl, hyb, hyl, hyf, hys⟩ := L9.out.yb (by omega)
            have HYB := Lib.hid (show w4.heap.size ≤ yb ∧ yb < w9.heap.size ∧ (∀ j, w9.frozen? ⟨yb, j, none⟩ = false) ∧ SegsAt w9 yb 0 ((l.take k).map (madeX m) ++ [mixQ s (resP m s.p) (resP m s.q) (resP m s.r) i] ++ l.drop (k + 1)) from ⟨hyb, hyl, hyf, hys⟩)
            have HYI : Hid (((l.take k).map (madeX m) ++ [mixQ s (resP m s.p) (resP m s.q) (resP m s.r) i] ++ l.drop (k + 1))[k]? = some (mixQ s (resP m s.p) (resP m s.q) (resP m s.r) i)) := by
              unfold Hid
              have hkl : ((l.take k).map (madeX m)).length = k := by have := HN.out; simp; omega
              rw [List.append_assoc, List.getElem?_append_right (by omega), hkl]
              simp
            have HYNE : Hid (yb ≠ g15) := fun e => by
              subst e
              have h1 := K15.out
              have h2 := L9.out.y
              obtain ⟨_, ⟨e, _⟩ | ⟨g, cap, cur, e, _, hg, _⟩⟩ := h2
              · cases e
              · cases e
                unfold Blk at h1
                rw [hg] at h1
                simp at h1
            have STO : Hid (LwS w4 w.heap.size m (some ⟨yb, 0, none⟩) n yc ((w9.setCell ⟨yb, k * 7 + 1 + i * 2, none⟩ (.int .i64 X)).setCell ⟨yb, k * 7 + 1 + i * 2 + 1, none⟩ (.int .i64 Y)) v8 ((l.take k).flatMap needPts ++ s.pts.take (i + 1)) ((l.take k).map (madeX m) ++ [mixQ s (resP m s.p) (resP m s.q) (resP m s.r) (i + 1)] ++ l.drop (k + 1))) := by
              have h := L9.out.store HYI.out HI3.out (X, Y)
              have e : (mixQ s (resP m s.p) (resP m s.q) (resP m s.r) i).put i (X, Y) = mixQ s (resP m s.p) (resP m s.q) (resP m s.r) (i + 1) := by rw [mixQ_put HI3.out HPQ.out, HXY.out]
              have hkl : ((l.take k).map (madeX m)).length = k := by have := HN.out; simp; omega
              rw [e] at h
              have e1 : ((l.take k).map (madeX m) ++ [mixQ s (resP m s.p) (resP m s.q) (resP m s.r) i] ++ l.drop (k + 1)).take k = (l.take k).map (madeX m) := by rw [List.append_assoc, List.take_append_of_le_length (by omega), List.take_of_length_le (by omega)]
              have e2 : ((l.take k).map (madeX m) ++ [mixQ s (resP m s.p) (resP m s.q) (resP m s.r) i] ++ l.drop (k + 1)).drop (k + 1) = l.drop (k + 1) := by
                rw [List.drop_append_of_le_length (by rw [List.length_append, hkl]; simp), List.drop_of_length_le (by rw [List.length_append, hkl]; simp)]
                rfl
              rw [e1, e2] at h
              exact h
            have KS10 : Hid (Blk ((w9.setCell ⟨yb, k * 7 + 1 + i * 2, none⟩ (.int .i64 X)).setCell ⟨yb, k * 7 + 1 + i * 2 + 1, none⟩ (.int .i64 Y)) gS 48 s.cells) := by
              have hne : gS ≠ yb := fun e => by
                have h1 := KS9.out
                rw [e] at h1
                obtain ⟨_, ⟨e, _⟩ | ⟨g, cap, cur, e, _, hg, _⟩⟩ := L9.out.y
                · cases e
                · cases e
                  unfold Blk at h1
                  rw [hg] at h1
                  simp at h1
              exact (KS9.out.other _ _ hne).other _ _ hne
            clear hyb hyl hyf hys
            go_upto_region 19 with fail
            cases rb
            · have HRB : Hid (eb = (rb0 || !((s.pts.take (i + 1)).all fun p => apOk m p.1 p.2))) := by
                have key : ((s.pts.take (i + 1)).all fun p => apOk m p.1 p.2) = (((s.pts.take i).all fun p => apOk m p.1 p.2) && apOk m px py) := by rw [List.take_add_one, HPQ.out, List.all_append]; simp
                have h := HRB0.out
                unfold Hid
                rw [key]
                revert h
                have he := HEB.out
                generalize ((s.pts.take i).all fun p => apOk m p.1 p.2) = P
                revert he
                generalize apOk m px py = Q
                intro he h
                revert h
                subst he
                cases rb0 <;> cases P <;> cases Q <;> simp
              go_upto_region 20 with fail
              have k15 := K15.out
              have q0 := k15.p0
              have q1 := k15.p1
              have l15 := k15.lt
              obtain ⟨hyb, hyl, hyf, hys⟩ := HYB.out
              have hyo := hys
              have y0 := (ycells hys HYI.out HI3.out).1
              have y1 := (ycells hys HYI.out HI3.out).2
              have g0 := hyf (k * 7 + 1 + i * 2)
              have g1 := hyf (k * 7 + 1 + i * 2 + 1)
              have hne := HYNE.out
              have hne2 := Ne.symm hne
              clear hyb hyf hys hyo k15
              go_wp2_with fail
              go_region
              go_wp2_with fail
              exact ⟨⟨i + 1, eb, by omega, rfl, by simp, STO.out.grow ⟨rfl, rfl, rfl, Nat.le_refl _, fun _ _ => rfl⟩, KS10.out.drew, HRB.out⟩, by simp [intOf]; omega⟩
            · have HRB : Hid (true = (rb0 || !((s.pts.take (i + 1)).all fun p => apOk m p.1 p.2))) := by
                have key : ((s.pts.take (i + 1)).all fun p => apOk m p.1 p.2) = (((s.pts.take i).all fun p => apOk m p.1 p.2) && apOk m px py) := by rw [List.take_add_one, HPQ.out, List.all_append]; simp
                have h := HRB0.out
                unfold Hid
                rw [key]
                revert h
                have he := HEB.out
                generalize ((s.pts.take i).all fun p => apOk m p.1 p.2) = P
                revert he
                generalize apOk m px py = Q
                intro he h
                revert h
                subst he
                cases rb0 <;> cases P <;> cases Q <;> simp
              go_upto_region 20 with fail
              have k15 := K15.out
              have q0 := k15.p0
              have q1 := k15.p1
              have l15 := k15.lt
              obtain ⟨hyb, hyl, hyf, hys⟩ := HYB.out
              have hyo := hys
              have y0 := (ycells hys HYI.out HI3.out).1
              have y1 := (ycells hys HYI.out HI3.out).2
              have g0 := hyf (k * 7 + 1 + i * 2)
              have g1 := hyf (k * 7 + 1 + i * 2 + 1)
              have hne := HYNE.out
              have hne2 := Ne.symm hne
              clear hyb hyf hys hyo k15
              go_wp2_with fail
              go_region
              go_wp2_with fail
              exact ⟨⟨i + 1, true, by omega, rfl, by simp, STO.out.grow ⟨rfl, rfl, rfl, Nat.le_refl _, fun _ _ => rfl⟩, KS10.out.drew, HRB.out⟩, by simp [intOf]; omega⟩
        · obtain rfl : i = ns := by omega
          have hdi : decide ((i : Int) < (i : Int)) = false := by simp
          have L9 := Lib.hid hx.out.1
          have HRB0 := Lib.hid hx.out.2.2
          have HALL : Hid (rb = (rn || !(l.take (k + 1)).all (madeOk m))) := by
            have h1 := HRB0.out
            have h2 := HRB6.out
            unfold Hid
            rw [h1, h2, List.take_add_one, HQ.out, List.all_append]
            have e : madeOk m s = (s.pts.take i).all fun p => apOk m p.1 p.2 := by unfold madeOk needPts; rw [HNS.out]
            rw [← e]
            simp
            cases rn <;> cases (l.take k).all (madeOk m) <;> cases madeOk m s <;> rfl
          have NX : Hid (LwS w4 w.heap.size m ya n yc wr u10 ((l.take (k + 1)).flatMap needPts) ((l.take (k + 1)).map (madeX m) ++ l.drop (k + 1))) := by
            have h := L9.out
            have e1 : (l.take (k + 1)).flatMap needPts = (l.take k).flatMap needPts ++ s.pts.take i := by
              rw [List.take_add_one, HQ.out, List.flatMap_append]
              simp [needPts, HNS.out]
            have e2 : (l.take (k + 1)).map (madeX m) ++ l.drop (k + 1) = (l.take k).map (madeX m) ++ [mixQ s (resP m s.p) (resP m s.q) (resP m s.r) i] ++ l.drop (k + 1) := by
              rw [List.take_add_one, HQ.out, List.map_append]
              simp [madeX, HNS.out]
            rw [e1, e2]
            exact h
          have hk100 := HA.out.2.2.2
          have hwk : wrap64 ((k : Int) + 1) = ((k + 1 : Nat) : Int) := by rw [wrapR _ (by omega) (by omega)]; omega
          clear hx
          go_wp2_with fail
          exact ⟨⟨k + 1, rb, by omega, rfl, by simp, NX.out, HALL.out⟩, by simp [intOf]; omega⟩
    · obtain rfl : k = n := by omega
      have hd : decide ((k : Int) < (k : Int)) = false := by simp
      have hall := hw.out.2
      have hL := hw.out.1
      rw [List.take_of_length_le (Nat.le_of_eq HN.out)] at hall hL
      rw [List.drop_of_length_le (Nat.le_of_eq HN.out), List.append_nil] at hL
      have L6 := Lib.hid hL
      have HALL := Lib.hid hall
      clear hw hall hL
      go_wp2_with fail
      refine (HPB.out _ (below_next B4.out.1 L6.out.below)).mono ?_
      rintro e w7 ⟨rfl, hb⟩
      have L7 := Lib.hid (L6.out.grow hb)
      clear hb
      go_wp2_with fail
      refine (HGB.out _ _ L7.out.all.row).mono ?_
      rintro e w8 ⟨rfl, hb⟩
      have L8 := Lib.hid (L7.out.grow hb)
      have Q8 := Lib.hid (Q4.out.on L8.out.below)
      have B8 := Lib.hid (below_next B4.out.1 L8.out.below)
      clear hb
      cases rb0
      · obtain ⟨e1, e2⟩ := HFIN.out.2 HALL.out.symm
        subst e1 e2
        go_wp2_with fail
        refine (same_c _ _ (l.map (madeX m)) _ (by have := HN.out; have := HA.out.2.2.2; simp; omega) Q8.out L8.out.y.row).mono ?_
        rintro e w9 ⟨rfl, hb⟩
        have B9 := Lib.hid (below_next B8.out hb)
        clear hb
        go_wp2_with fail
        refine (awake_c _ (HR.out.on B9.out)).mono ?_
        rintro e w10 ⟨rfl, hb⟩
        have BZ := Lib.hid (below_next (B9.out) hb)
        clear hb
        go_wp2_with fail
        go_ret
        exact ⟨rfl, BZ.out⟩
      · obtain ⟨e1, e2⟩ := HFIN.out.1 HALL.out.symm
        subst e1 e2
        obtain ⟨qa, qc, rfl⟩ : ∃ a c, q = .slice a 0 c := by
          rcases Q8.out with ⟨rfl, _⟩ | ⟨a, c', rfl, _⟩ | ⟨b, o, c', rfl, _, _⟩ <;> exact ⟨_, _, rfl⟩
        go_wp2_with fail
        refine (awake_c _ (HR.out.on B8.out)).mono ?_
        rintro e w9 ⟨rfl, hb⟩
        have BZ := Lib.hid (below_next (B8.out) hb)
        clear hb
        go_wp2_with fail
        go_ret
        exact ⟨rfl, BZ.out⟩
end Go.Proofs.YtffgpikhahpomaaDoor
