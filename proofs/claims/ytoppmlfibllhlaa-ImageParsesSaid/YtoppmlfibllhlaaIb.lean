/- Layer 11: a struct with a row that grows; the law's ref. -/
import Derived.Test.YtoppmlfibllhlaaIa
namespace Go.Proofs.Ytoppmlfibllhlaa
open Go.RowKit
theorem Lays.grown {W w' : World} {base size n : Nat} {e : TypeId} {v : Value} {xs : List Value} (h : W.ownsRow base e size v n xs) (g : W.grownBy w' v.ownBlock) : ∀ {l : BlkL}, Lays W l → (∀ x ∈ l, x.1 < base) → Lays w' l
  | [], _, _ => trivial
  | x :: l, hl, hb => ⟨own_blk h g hl.1 (hb x (by simp)), Lays.grown h g hl.2 fun y hy => hb y (by simp [hy])⟩
/-- A struct of three cells whose last one is a row that grows; other blocks at hand. -/
structure AppS (w : World) (base g : Nat) (tI : TypeId) (x y : Value) (Bs : BlkL) (vb vr : Value) (l : List Col) (A : World) : Prop where
  below : Below w.heap.size w A
  size : base ≤ A.heap.size
  lays : Lays A Bs
  out : Blk A g tI #[x, y, vb]
  row : OwnK .i64 A base 43 vr l
  ok : w.heap.size ≤ g ∧ g < base ∧ ∀ b ∈ Bs, b.1 < base ∧ b.1 ≠ g
theorem AppS.grow {w A B : World} {base g : Nat} {tI : TypeId} {x y : Value} {Bs : BlkL} {vb vr : Value} {l : List Col} (h : AppS w base g tI x y Bs vb vr l A) (hb : Below A.heap.size A B) : AppS w base g tI x y Bs vb vr l B :=
  ⟨h.below.trans (hb.mono h.below.size), Nat.le_trans h.size hb.size, h.lays.grow hb, h.out.grow hb, h.row.grow hb, h.ok⟩
theorem AppS.app {w A B : World} {base g : Nat} {tI : TypeId} {x y : Value} {Bs : BlkL} {vb vr v' : Value} {l l' : List Col} (h : AppS w base g tI x y Bs vb vr l A) (ho : OwnK .i64 B base 43 v' l') (hg : A.grownBy B vr.ownBlock) : AppS w base g tI x y Bs vb v' l' B :=
  ⟨own_below h.row hg h.below (Nat.le_trans h.ok.1 (Nat.le_of_lt h.ok.2.1)) h.below.size, Nat.le_trans h.size hg.size, h.lays.grown h.row hg fun b hb => (h.ok.2.2 b hb).1, own_blk h.row hg h.out h.ok.2.1, ho, h.ok⟩
theorem AppS.store {w A : World} {base g : Nat} {tI : TypeId} {x y : Value} {Bs : BlkL} {vb vr : Value} {l : List Col} (h : AppS w base g tI x y Bs vb vr l A) : AppS w base g tI x y Bs vr vr l (A.setCell ⟨g, 2, none⟩ vr) :=
  ⟨h.below.setCell h.ok.1 _, by simpa [World.setCell] using h.size, h.lays.other _ _ fun b hb => (h.ok.2.2 b hb).2, h.out.set 2 vr,
    owns_keep h.row (S := fun j => j ≠ g) (Keep.setCell _ _ _ (by simp)) (fun k e e2 => by have := World.ownsRow.lt h.row k e; have := h.ok.2.1; omega), h.ok⟩
theorem OwnK.setCell {ik : IntKind} {w : World} {base : Nat} {t : TypeId} {v : Value} {l : List Col} (h : OwnK ik w base t v l) {r i : Nat} (hr : r < base) (u : Value) : OwnK ik (w.setCell ⟨r, i, none⟩ u) base t v l :=
  owns_keep h (S := fun j => j ≠ r) (Keep.setCell _ _ _ (by simp)) (fun k e e2 => by have := World.ownsRow.lt h k e; omega)
/-- A literal row of one colour. -/
def OneK (ik : IntKind) (v : Value) (c : Col) (A : World) : Prop := ∃ q, v = .slice (some ⟨q, 0, none⟩) 1 1 ∧ ColAt ik A q 0 c ∧ q < A.heap.size
theorem OneK.grow {ik : IntKind} {v : Value} {c : Col} {A B : World} (h : OneK ik v c A) (hb : Below A.heap.size A B) : OneK ik v c B := by
  obtain ⟨q, e, hc, hq⟩ := h
  exact ⟨q, e, hc.on hb hq, Nat.lt_of_lt_of_le hq hb.size⟩
theorem OneK.made (ik : IntKind) (A : World) (c : Col) (t : TypeId) : OneK ik (.slice (some ⟨A.heap.size, 0, none⟩) 1 1) c (A.alloc (.cells #[.int ik (c 0), .int ik (c 1), .int ik (c 2), .int ik (c 3)] t)) :=
  ⟨_, rfl, ⟨(Blk.new A t _).cell 0, (Blk.new A t _).cell 1, (Blk.new A t _).cell 2, (Blk.new A t _).cell 3⟩, by simp⟩
theorem take_succ_at {α : Type} {l : List α} {k : Nat} {x : α} (h : l[k]? = some x) : l.take (k + 1) = l.take k ++ [x] := by
  rw [List.take_add_one, h]; rfl
theorem results_im {fn : Func} {tmps : Array Value} {W : World} {g : Nat} {x y z : Value} (a : Nat) (hres : fn.results = #[.cell a 33]) (ha : tmps[a]? = some (.pointer (some ⟨g, 0, none⟩))) (hg : Blk W g 33 #[x, y, z]) :
    (results fn tmps).run Try.prog W = .ok (.agg #[x, y, z]) W := by
  have h0 := hg.cell 0
  have h1 := hg.cell 1
  have h2 := hg.cell 2
  simp only [List.getElem?_toArray, List.getElem?_cons_zero, List.getElem?_cons_succ] at h0 h1 h2
  simp [results, hres, ha, go_sem, h0, h1, h2]
set_option maxHeartbeats 2000000 in
set_option maxRecDepth 100000 in
theorem refColor_c (c : Col) (hc : OkC c) (w : World) : Calls Try.prog 19 #[.agg #[.int .u8 (c 0), .int .u8 (c 1), .int .u8 (c 2), .int .u8 (c 3)]] w fun e w' => e = .returned (.agg #[.int .i64 (c 0), .int .i64 (c 1), .int .i64 (c 2), .int .i64 (c 3)]) ∧ Below w.heap.size w w' := by
  have k0 := hc 0 (by decide)
  have k1 := hc 1 (by decide)
  have k2 := hc 2 (by decide)
  have k3 := hc 3 (by decide)
  have e0 := u8_i64 k0.1 k0.2
  have e1 := u8_i64 k1.1 k1.2
  have e2 := u8_i64 k2.1 k2.2
  have e3 := u8_i64 k3.1 k3.2
  clear k0 k1 k2 k3 hc
  go_enter Try.func19, Try.ntmps19
  go_wp2_with fail
  exact bodyPost_ret (results_col (f := fun i => .int .i64 (c i)) (.inl rfl) 2 rfl rfl (Blk.newAt _ _ _ (by simp))) rfl ⟨rfl, ((Below.refl _ _).alloc (Nat.le_refl _) _).alloc (by simp) _⟩
set_option maxHeartbeats 4000000 in
set_option maxRecDepth 100000 in
theorem lawRef_c (W H : Int) (s : Value) (l : List Col) (w : World) (row : RowK .u8 w s l) (hok : ∀ c ∈ l, OkC c) (hl : l.length ≤ 70000) : Calls Try.prog 11 #[.agg #[.int .i64 W, .int .i64 H, s]] w fun e w' => ∃ u, e = .returned (.agg #[.int .i64 W, .int .i64 H, u]) ∧ OwnK .i64 w' w.heap.size 43 u l ∧ Below w.heap.size w w' := by
  obtain ⟨ao, cp, rfl⟩ := row.shape
  have HROW := Lib.hid row
  have HOK := Lib.hid hok
  obtain ⟨n, hn⟩ : ∃ n, l.length = n := ⟨_, rfl⟩
  have HN := Lib.hid hn
  rw [hn] at HROW hl ⊢
  clear row hn hok
  go_enter Try.func11, Try.ntmps11
  go_wp2_with fail
  go_loopw [14] (fun s14 wr => ∃ (k : Nat) (v : Value), k ≤ n ∧ s14 = .int .i64 (k : Int) ∧ Hid (AppS w (w.heap.size + 1 + 1 + 1) (w.heap.size + 1 + 1) 33 (.int .i64 W) (.int .i64 H) [(w.heap.size, 24, #[.int .i64 W, .int .i64 H, .slice ao n cp]), (w.heap.size + 1, 33, #[.int .i64 0, .int .i64 0, .slice none 0 0])] v v (l.take k) wr)) (fun s14 _ => n - (intOf s14).toNat)
  case atStart =>
    refine ⟨0, .slice none 0 0, by omega, rfl, (((Below.refl _ _).alloc (Nat.le_refl _) _).alloc (by simp) _).alloc (by simp; omega) _, by simp, ⟨((Blk.new _ _ _).alloc _).alloc _, (Blk.newAt _ _ _ (by simp)).alloc _, trivial⟩, Blk.newAt _ _ _ (by simp), OwnK.nil _ _ _ _, by omega, by omega, ?_⟩
    intro b hb
    simp at hb
    rcases hb with rfl | rfl
    · exact ⟨by simp; omega, by simp; omega⟩
    · exact ⟨by simp, by simp⟩
  case round =>
    obtain ⟨k, v, hk, rfl, hw⟩ := hrel
    by_cases hlt : k < n
    · have hd : decide ((k : Int) < (n : Int)) = true := by simp; omega
      have hki : (k : Int) < (n : Int) := by omega
      obtain ⟨x, hx⟩ : ∃ x, l[k]? = some x := ⟨_, List.getElem?_eq_getElem (by rw [HN.out]; exact hlt)⟩
      obtain ⟨b, o, rfl, hbl, hat⟩ := RowK.addr (HROW.out) (by rw [HN.out]; omega)
      have HRC := Lib.hid (refColor_c x (HOK.out x (List.mem_of_getElem? hx)))
      obtain ⟨c0, c1, c2, c3⟩ := (hat k x hx).on hw.out.below hbl
      have HTK : Hid (l.take (k + 1) = l.take k ++ [x]) := take_succ_at hx
      have HLL : Hid ((l.take k).length + 1 ≤ 100000) := by unfold Hid; rw [List.length_take]; omega
      obtain ⟨va, vc, rfl⟩ := hw.out.row.shape
      obtain ⟨L, hL⟩ : ∃ L, l.take k = L := ⟨_, rfl⟩
      rw [hL] at hw HTK HLL
      generalize L.length = vn at hw
      clear hx hat hbl hL
      go_wp2_with fail
      obtain ⟨w2, hw2⟩ : ∃ W', wr.alloc (.cells #[.int .u8 (x 0), .int .u8 (x 1), .int .u8 (x 2), .int .u8 (x 3)] 28) = W' := ⟨_, rfl⟩
      have HS2 : Hid (AppS w (w.heap.size + 1 + 1 + 1) (w.heap.size + 1 + 1) 33 (.int .i64 W) (.int .i64 H) [(w.heap.size, 24, #[.int .i64 W, .int .i64 H, .slice (some ⟨b, o, none⟩) n cp]), (w.heap.size + 1, 33, #[.int .i64 0, .int .i64 0, .slice none 0 0])] (.slice va vn vc) (.slice va vn vc) L w2 ∧ Blk w2 wr.heap.size 28 (c8 x)) := by
        rw [← hw2]
        exact ⟨hw.out.grow ((Below.refl _ _).alloc (Nat.le_refl _) _), Blk.new _ _ _⟩
      rw [hw2]
      generalize wr.heap.size = g5 at *
      clear hw2 c0 c1 c2 c3 hw
      refine wp_region_put (by kernel_rfl) (by kernel_rfl) (by kernel_rfl) (fun b' vs w' => (b' 0 = true → vs 0 = .pointer (some ⟨w.heap.size + 1 + 1, 2, none⟩)) ∧ (b' 1 = true → vs 1 = .slice va vn vc) ∧ (b' 2 = true → vs 2 = .agg #[.int .u8 (x 0), .int .u8 (x 1), .int .u8 (x 2), .int .u8 (x 3)]) ∧ (b' 3 = true → vs 3 = .agg #[.int .i64 (x 0), .int .i64 (x 1), .int .i64 (x 2), .int .i64 (x 3)]) ∧ (b' 6 = true → vs 6 = .pointer (some ⟨w.heap.size + 1 + 1, 2, none⟩)) ∧ (b' 4 = true → b' 5 = false → Hid (OneK .i64 (vs 4) x w')) ∧ (b' 5 = false → Hid (AppS w (w.heap.size + 1 + 1 + 1) (w.heap.size + 1 + 1) 33 (.int .i64 W) (.int .i64 H) [(w.heap.size, 24, #[.int .i64 W, .int .i64 H, .slice (some ⟨b, o, none⟩) n cp]), (w.heap.size + 1, 33, #[.int .i64 0, .int .i64 0, .slice none 0 0])] (.slice va vn vc) (.slice va vn vc) L w' ∧ Blk w' g5 28 (c8 x))) ∧ (b' 5 = true → b' 7 = false → Hid (AppS w (w.heap.size + 1 + 1 + 1) (w.heap.size + 1 + 1) 33 (.int .i64 W) (.int .i64 H) [(w.heap.size, 24, #[.int .i64 W, .int .i64 H, .slice (some ⟨b, o, none⟩) n cp]), (w.heap.size + 1, 33, #[.int .i64 0, .int .i64 0, .slice none 0 0])] (.slice va vn vc) (vs 5) (L ++ [x]) w')) ∧ (b' 7 = true → Hid (∃ v', AppS w (w.heap.size + 1 + 1 + 1) (w.heap.size + 1 + 1) 33 (.int .i64 W) (.int .i64 H) [(w.heap.size, 24, #[.int .i64 W, .int .i64 H, .slice (some ⟨b, o, none⟩) n cp]), (w.heap.size + 1, 33, #[.int .i64 0, .int .i64 0, .slice none 0 0])] v' v' (L ++ [x]) w')) ∧ (b' 4 = true → b' 3 = true) ∧ (b' 3 = true → b' 2 = true) ∧ (b' 5 = true → b' 1 = true) ∧ (b' 5 = true → b' 2 = true) ∧ (b' 5 = true → b' 3 = true) ∧ (b' 5 = true → b' 4 = true) ∧ (b' 7 = true → b' 5 = true)) ?_ ?_ ?_
      · intro vs
        exact ⟨fun h => Bool.noConfusion h, fun h => Bool.noConfusion h, fun h => Bool.noConfusion h, fun h => Bool.noConfusion h, fun h => Bool.noConfusion h, fun h => Bool.noConfusion h, fun _ => Lib.hid (⟨HS2.out.1.grow ⟨rfl, rfl, rfl, Nat.le_refl _, fun _ _ => rfl⟩, HS2.out.2.grow ⟨rfl, rfl, rfl, Nat.le_refl _, fun _ _ => rfl⟩⟩), fun h => Bool.noConfusion h, fun h => Bool.noConfusion h, fun h => Bool.noConfusion h, fun h => Bool.noConfusion h, fun h => Bool.noConfusion h, fun h => Bool.noConfusion h, fun h => Bool.noConfusion h, fun h => Bool.noConfusion h, fun h => Bool.noConfusion h⟩
      · rintro b' vs w' i op hi hun hall ⟨h0, h1, h2, h3, h6, yM, hF, yA, yS, hE4_3, hE3_2, hW1, hW2, hW3, hW4, hX⟩
        have hil : i < 8 := (List.getElem?_eq_some_iff.1 hi).1
        rcases i with _ | _ | _ | _ | _ | _ | _ | _ | i
        · obtain rfl := Option.some.inj hi
          clear hi hil
          refine wpOp_step rfl (fun K hK => ?_)
          have HKK := Lib.hid hK; clear hK
          simp only [putAll, Act.put, List.setIfInBounds_toArray, List.set_cons_zero, List.set_cons_succ]
          go_simp
          exact HKK.out _ _ ⟨_, by simp only [putAll, Act.put, List.setIfInBounds_toArray, List.set_cons_zero, List.set_cons_succ] <;> rfl, fun _ => rfl, h1, h2, h3, h6, yM, hF, yA, yS, hE4_3, hE3_2, hW1, hW2, hW3, hW4, hX⟩
        · obtain rfl := Option.some.inj hi
          clear hi hil
          have d0 := h0 (hall ⟨0, .data⟩ (by simp) rfl)
          have na : b' 5 = false := by
            cases hz : b' 5 with
            | false => rfl
            | true => exact absurd (hW1 hz) (by rw [hun]; decide)
          have hS := hF na
          have c2 := hS.out.1.out.cell 2
          simp only [List.getElem?_toArray, List.getElem?_cons_zero, List.getElem?_cons_succ] at c2
          refine wpOp_step rfl (fun K hK => ?_)
          have HKK := Lib.hid hK; clear hK
          simp only [putAll, Act.put, List.setIfInBounds_toArray, List.set_cons_zero, List.set_cons_succ]
          go_simp
          exact HKK.out _ _ ⟨_, by simp only [putAll, Act.put, List.setIfInBounds_toArray, List.set_cons_zero, List.set_cons_succ, d0] <;> rfl, h0, fun _ => rfl, h2, h3, h6, yM, hF, yA, yS, hE4_3, hE3_2, fun _ => rfl, hW2, hW3, hW4, hX⟩
        · obtain rfl := Option.some.inj hi
          clear hi hil
          have na : b' 5 = false := by
            cases hz : b' 5 with
            | false => rfl
            | true => exact absurd (hW2 hz) (by rw [hun]; decide)
          have hS := hF na
          obtain ⟨c0, c1, c2, c3⟩ := hS.out.2.c0
          refine wpOp_step rfl (fun K hK => ?_)
          have HKK := Lib.hid hK; clear hK
          simp only [putAll, Act.put, List.setIfInBounds_toArray, List.set_cons_zero, List.set_cons_succ]
          go_simp
          exact HKK.out _ _ ⟨_, by simp only [putAll, Act.put, List.setIfInBounds_toArray, List.set_cons_zero, List.set_cons_succ] <;> rfl, h0, h1, fun _ => rfl, h3, h6, yM, hF, yA, yS, hE4_3, fun _ => rfl, hW1, fun _ => rfl, hW3, hW4, hX⟩
        · obtain rfl := Option.some.inj hi
          clear hi hil
          have d2 := h2 (hall ⟨2, .data⟩ (by simp) rfl)
          have na : b' 5 = false := by
            cases hz : b' 5 with
            | false => rfl
            | true => exact absurd (hW3 hz) (by rw [hun]; decide)
          have hS := hF na
          refine wpOp_step rfl (fun K hK => ?_)
          have HKK := Lib.hid hK; clear hK
          simp only [putAll, Act.put, List.setIfInBounds_toArray, List.set_cons_zero, List.set_cons_succ]
          go_simp
          refine (HRC.out _).mono ?_
          rintro e w2 ⟨rfl, hb2⟩
          exact HKK.out _ _ ⟨_, by simp only [putAll, Act.put, List.setIfInBounds_toArray, List.set_cons_zero, List.set_cons_succ, d2] <;> rfl, h0, h1, h2, fun _ => rfl, h6, fun h ha => Lib.hid ((yM h ha).out.grow hb2), fun ha => Lib.hid (⟨hS.out.1.grow hb2, hS.out.2.grow hb2⟩), fun h => absurd (show b' 5 = true from h) (by rw [na]; decide), fun h => absurd (hX (show b' 7 = true from h)) (by rw [na]; decide), fun _ => rfl, fun _ => hall ⟨2, .data⟩ (by simp) rfl, hW1, hW2, fun _ => rfl, hW4, hX⟩
        · obtain rfl := Option.some.inj hi
          clear hi hil
          have d3 := h3 (hall ⟨3, .data⟩ (by simp) rfl)
          have na : b' 5 = false := by
            cases hz : b' 5 with
            | false => rfl
            | true => exact absurd (hW4 hz) (by rw [hun]; decide)
          have hS := hF na
          refine wpOp_step rfl (fun K hK => ?_)
          have HKK := Lib.hid hK; clear hK
          simp only [putAll, Act.put, List.setIfInBounds_toArray, List.set_cons_zero, List.set_cons_succ]
          go_simp
          have hb2 : Below w'.heap.size w' (w'.alloc (.cells #[.int .i64 (x 0), .int .i64 (x 1), .int .i64 (x 2), .int .i64 (x 3)] 43)) := (Below.refl _ _).alloc (Nat.le_refl _) _
          exact HKK.out _ _ ⟨_, by simp only [putAll, Act.put, List.setIfInBounds_toArray, List.set_cons_zero, List.set_cons_succ, d3] <;> rfl, h0, h1, h2, h3, h6, fun _ _ => Lib.hid (OneK.made .i64 w' x 43), fun ha => Lib.hid (⟨hS.out.1.grow hb2, hS.out.2.grow hb2⟩), fun h => absurd (show b' 5 = true from h) (by rw [na]; decide), fun h => absurd (hX (show b' 7 = true from h)) (by rw [na]; decide), fun _ => hall ⟨3, .data⟩ (by simp) rfl, hE3_2, hW1, hW2, hW3, fun _ => rfl, hX⟩
        · obtain rfl := Option.some.inj hi
          clear hi hil
          have d1 := h1 (hall ⟨1, .data⟩ (by simp) rfl)
          have hS := hF hun
          have oM := yM (hall ⟨4, .data⟩ (by simp) rfl) hun
          obtain ⟨q, e4, hq, hql⟩ := oM.out
          refine wpOp_step rfl (fun K hK => ?_)
          have HKK := Lib.hid hK; clear hK
          simp only [putAll, Act.put, List.setIfInBounds_toArray, List.set_cons_zero, List.set_cons_succ]
          refine (if_pos rfl).mpr (wp_app_c64 _ _ 31 43 rfl Try.underlying31 infoC64 (w.heap.size + 1 + 1 + 1) _ L x d1 hS.out.1.row q e4 hq HLL.out hS.out.1.size ?_)
          intro v' w2 ho2 hg2 hm2
          exact HKK.out _ _ ⟨_, by simp only [putAll, Act.put, List.setIfInBounds_toArray, List.set_cons_zero, List.set_cons_succ, d1] <;> rfl, h0, h1, h2, h3, h6, fun _ h => Bool.noConfusion h, fun h => Bool.noConfusion h, fun _ _ => Lib.hid (hS.out.1.app ho2 hg2), fun h => absurd (hX (show b' 7 = true from h)) (by rw [hun]; decide), hE4_3, hE3_2, fun _ => hall ⟨1, .data⟩ (by simp) rfl, fun _ => hE3_2 (hE4_3 (hall ⟨4, .data⟩ (by simp) rfl)), fun _ => hE4_3 (hall ⟨4, .data⟩ (by simp) rfl), fun _ => hall ⟨4, .data⟩ (by simp) rfl, fun _ => rfl⟩
        · obtain rfl := Option.some.inj hi
          clear hi hil
          refine wpOp_step rfl (fun K hK => ?_)
          have HKK := Lib.hid hK; clear hK
          simp only [putAll, Act.put, List.setIfInBounds_toArray, List.set_cons_zero, List.set_cons_succ]
          go_simp
          exact HKK.out _ _ ⟨_, by simp only [putAll, Act.put, List.setIfInBounds_toArray, List.set_cons_zero, List.set_cons_succ] <;> rfl, h0, h1, h2, h3, fun _ => rfl, yM, hF, yA, yS, hE4_3, hE3_2, hW1, hW2, hW3, hW4, hX⟩
        · obtain rfl := Option.some.inj hi
          clear hi hil
          have d6 := h6 (hall ⟨6, .data⟩ (by simp) rfl)
          have ta : b' 5 = true := hall ⟨5, .data⟩ (by simp) rfl
          have oA := yA ta hun
          have q1 := h1 (hW1 ta)
          have q2 := h2 (hW2 ta)
          have q3 := h3 (hW3 ta)
          obtain ⟨xa, xc, e5⟩ := oA.out.row.shape
          have hst := oA.out.store
          rw [e5] at hst
          generalize (L ++ [x]).length = xn at e5 hst
          have c2 := oA.out.out.cell 2
          have f2 := oA.out.out.free 2
          have lg := oA.out.out.lt
          simp only [List.getElem?_toArray, List.getElem?_cons_zero, List.getElem?_cons_succ] at c2
          refine wpOp_step rfl (fun K hK => ?_)
          have HKK := Lib.hid hK; clear hK
          simp only [putAll, Act.put, List.setIfInBounds_toArray, List.set_cons_zero, List.set_cons_succ]
          go_simp
          exact HKK.out _ _ ⟨undef, by simp only [putAll, Act.put, List.setIfInBounds_toArray, List.set_cons_zero, List.set_cons_succ, d6, e5, q1, q2, q3] <;> rfl, h0, h1, h2, h3, h6, fun _ h => absurd (show b' 5 = false from h) (by rw [ta]; decide), fun h => absurd (show b' 5 = false from h) (by rw [ta]; decide), fun _ h => Bool.noConfusion h, fun _ => Lib.hid (⟨_, hst⟩), hE4_3, hE3_2, hW1, hW2, hW3, hW4, fun _ => ta⟩
        · omega
      · rintro b' vs w2 hall ⟨h0, h1, h2, h3, h6, yM, hF, yA, yS, hE4_3, hE3_2, hW1, hW2, hW3, hW4, hX⟩
        have d0 := h0 (hall 0 (by simp))
        have d1 := h1 (hall 1 (by simp))
        have d2 := h2 (hall 2 (by simp))
        have d3 := h3 (hall 3 (by simp))
        have d6 := h6 (hall 6 (by simp))
        have PP := yS (hall 7 (by simp))
        simp only [putAll, Act.put, List.setIfInBounds_toArray, List.set_cons_zero, List.set_cons_succ, d0, d1, d2, d3, d6]
        clear hall h0 d0 h1 d1 h2 d2 h3 d3 h6 d6 yM hF yA yS hE4_3 hE3_2 hW1 hW2 hW3 hW4 hX
        generalize vs 4 = vM at *
        generalize vs 5 = vA at *
        obtain ⟨v', hv'⟩ := PP.out
        have HV := Lib.hid hv'
        clear PP hv'
        go_wp2_with fail
        exact ⟨⟨k + 1, v', by omega, by go_num, by rw [HTK.out]; exact HV.out⟩, by simp [intOf]; omega⟩
    · have hd : decide ((k : Int) < (n : Int)) = false := by simp; omega
      obtain rfl : n = k := by omega
      have hr := hw.out.row
      rw [List.take_of_length_le (by rw [HN.out]; omega)] at hr
      have HR := Lib.hid hr
      have d0 := hw.out.out.cell 0
      have d1 := hw.out.out.cell 1
      have d2 := hw.out.out.cell 2
      have z0 := hw.out.lays.2.1.cell 0
      have z1 := hw.out.lays.2.1.cell 1
      have z2 := hw.out.lays.2.1.cell 2
      have f0 := hw.out.lays.2.1.free 0
      have f1 := hw.out.lays.2.1.free 1
      have f2 := hw.out.lays.2.1.free 2
      have lg := hw.out.lays.2.1.lt
      simp only [List.getElem?_toArray, List.getElem?_cons_zero, List.getElem?_cons_succ] at d0 d1 d2 z0 z1 z2 lg f0 f1 f2
      obtain ⟨va, vc, rfl⟩ := hr |>.shape
      generalize l.length = vn at *
      clear hr
      go_wp2_with fail
      exact bodyPost_ret (results_im 2 rfl rfl (((hw.out.lays.2.1.set 0 _).set 1 _).set 2 _)) rfl ⟨_, rfl, (((HR.out.setCell (by omega) _).setCell (by omega) _).setCell (by omega) _).base (by omega), ((hw.out.below.setCell (by simp) _).setCell (by simp) _).setCell (by simp) _⟩
end Go.Proofs.Ytoppmlfibllhlaa

