/- Layer 12: package disk: Write. -/
import Derived.Test.YtdcjchakgfpgaaaCf
namespace Go.Proofs.Ytdcjchakgfpgaaa
open Go.RowKit
theorem infoK : (Try.prog.info? 81).map (fun i => (i.zero, i.size, i.bytes)) = some (some (.agg #[.int .i64 0, .slice none 0 0]), 2, 32) := by kernel_rfl
theorem wp_append_k {o : Oper} {a : Act} {w : World} {K : Act → World → Prop} {Q : Exit → Act → World → Prop} (s x : Operand) (t : TypeId)
    (ho : o.op = .call { callee := .builtin .append, args := #[s, x], argTypes := #[t, t] }) (ht : Try.prog.underlying t = some (.slice 81))
    (v : Value) (X : List Wr) (c : Wr) (hs : a.eval s = v) (hown : OwnK w v X) (q : Nat) (hxe : a.eval x = .slice (some ⟨q, 0, none⟩) 1 1) (hx : w.cell? ⟨q, 0, none⟩ = some (.int .i64 c.1) ∧ w.cell? ⟨q, 1, none⟩ = some c.2.1) (h1 : c.2.1.oneCell' = true) (hl : X.length + 1 ≤ 100000)
    (h : ∀ v' w', OwnK w' v' (X ++ [c]) → w.grownBy w' v.ownBlock → Moved w v v' → K (a.put o.dst v') w') : o.wp Try.prog a w K Q := by
  obtain ⟨v', w', hr, h2, h3, h4⟩ := run_append_w w t o.type 81 ht infoK 0 v X.length (flatW X) hown ⟨q, 0, none⟩ 1 1 (flatW [c]) rfl (fun j u hj => by
    rw [Addr.add_lit, Nat.zero_add]
    match j, hj with
    | 0, hj => obtain rfl := Option.some.inj hj; exact hx.1
    | 1, hj => obtain rfl := Option.some.inj hj; exact hx.2
    | j + 2, hj => simp [flatW] at hj) (fun u hu => by
    simp only [flatW, List.mem_cons, List.not_mem_nil, or_false] at hu
    rcases hu with rfl | rfl
    · rfl
    · exact h1) hl (Nat.zero_le _)
  unfold Oper.wp
  simp [execOp, ho, resolve, invoke, builtin, hs, hxe, hr, Result.andThen]
  exact h v' w' (by unfold OwnK; rw [List.length_append, flatW_append]; exact h2) h3 h4
/-- A row of bytes, of some length, made since. -/
def NewB (N : Nat) (bl : Nat) (B : List Int) (v : Value) (w : World) : Prop := ∃ a c, v = .slice a bl c ∧ OwnB w N (.slice a bl c) B
theorem NewB.grow {N bl : Nat} {B : List Int} {v : Value} {w w' : World} (h : NewB N bl B v w) (hb : Below w.heap.size w w') : NewB N bl B v w' := by
  obtain ⟨a, c, e, h⟩ := h
  exact ⟨a, c, e, h.grow hb⟩
def NewA (N : Nat) (i : Int) (bl : Nat) (B : List Int) (v : Value) (w : World) : Prop := ∃ a c, v = .agg #[.int .i64 i, .slice a bl c] ∧ OwnB w N (.slice a bl c) B
theorem NewA.grow {N bl : Nat} {i : Int} {B : List Int} {v : Value} {w w' : World} (h : NewA N i bl B v w) (hb : Below w.heap.size w w') : NewA N i bl B v w' := by
  obtain ⟨a, c, e, h⟩ := h
  exact ⟨a, c, e, h.grow hb⟩
def NewR (N : Nat) (i : Int) (bl : Nat) (B : List Int) (v : Value) (w : World) : Prop := ∃ q a c, v = .slice (some ⟨q, 0, none⟩) 1 1 ∧ (w.cell? ⟨q, 0, none⟩ = some (.int .i64 i) ∧ w.cell? ⟨q, 1, none⟩ = some (.slice a bl c)) ∧ q < w.heap.size ∧ OwnB w N (.slice a bl c) B
theorem NewR.grow {N bl : Nat} {i : Int} {B : List Int} {v : Value} {w w' : World} (h : NewR N i bl B v w) (hb : Below w.heap.size w w') : NewR N i bl B v w' := by
  obtain ⟨q, a, c, e, ⟨c0, c1⟩, hq, h⟩ := h
  exact ⟨q, a, c, e, ⟨(cell_below hb hq).trans c0, (cell_below hb hq).trans c1⟩, Nat.lt_of_lt_of_le hq hb.size, h.grow hb⟩
theorem NewR.made {N bl : Nat} {i : Int} {B : List Int} {a : Option Addr} {c : Nat} {w : World} {t : TypeId} (h : OwnB w N (.slice a bl c) B) : NewR N i bl B (.slice (some ⟨w.heap.size, 0, none⟩) 1 1) (w.alloc (.cells #[.int .i64 i, .slice a bl c] t)) :=
  ⟨_, a, c, rfl, ⟨(Blk.new _ _ _).cell 0, (Blk.new _ _ _).cell 1⟩, by simp, h.grow ((Below.refl _ _).alloc (Nat.le_refl _) _)⟩
/-- A write has been appended, and is not yet stored. -/
structure KApp (T : Nat → Prop) (w : World) (g : Nat) (x : Kd) (i : Int) (B : List Int) (v u : Value) (w2 w' : World) : Prop where
  at' : KAt T w2 g x
  below : Below w.heap.size w w2
  news : OwnB w2 w.heap.size u B
  grown : w2.grownBy w' x.wv.ownBlock
  row : OwnK w' v (x.L ++ [(i, u, B)])
  moved : Moved w2 x.wv v
theorem KApp.blk {T : Nat → Prop} {w w2 w' : World} {g : Nat} {x : Kd} {i : Int} {B : List Int} {v u : Value} (h : KApp T w g x i B v u w2 w') : Blk w' g 69 x.cells :=
  (Keep.of_grown h.grown).blk h.at'.blk (owns_off h.at'.wait h.at'.blk (by decide))
theorem owns_apart {w : World} {b b' s s' n n' : Nat} {t t' : TypeId} {u v : Value} {xs ys : List Value} (h : w.ownsRow b t s u n xs) (k : w.ownsRow b' t' s' v n' ys) (hne : t ≠ t') : ∀ j, u.ownBlock = some j → v.ownBlock ≠ some j := fun j e e2 =>
  (apart_types h k hne).elim (fun q => by rw [e] at q; cases q) (fun q => q (by rw [e, e2]))
theorem KApp.done {T : Nat → Prop} {w w2 w' : World} {g : Nat} {x : Kd} {i : Int} {B : List Int} {v u : Value} (h : KApp T w g x i B v u w2 w') (h0 : ∀ k, T k → k < w.heap.size) : ∃ T', KAt T' (w'.setCell ⟨g, 2, none⟩ v) g { x with L := x.L ++ [(i, u, B)], wv := v } ∧ To T w T' (w'.setCell ⟨g, 2, none⟩ v) := by
  have hK := Keep.of_grown h.grown
  have hs : Keep (fun k => k ≠ g) w' (w'.setCell ⟨g, 2, none⟩ v) := Keep.setCell _ _ _ (by simp)
  have hsz : w2.heap.size ≤ (w'.setCell ⟨g, 2, none⟩ v).heap.size := Nat.le_trans hK.size hs.size
  have hwz := h.below.size
  have hst := Nat.le_trans hwz hsz
  have a := h.at'
  have offg : ∀ {b s n : Nat} {t : TypeId} {u : Value} {xs : List Value}, w2.ownsRow b t s u n xs → t ≠ 69 → ∀ k, u.ownBlock = some k → k ≠ g := fun ho hne k e hg => owns_off ho a.blk hne (hg ▸ e)
  have both : ∀ {b s n : Nat} {t : TypeId} {u : Value} {xs : List Value}, w2.ownsRow b t s u n xs → t ≠ 69 → t ≠ 81 → (w'.setCell ⟨g, 2, none⟩ v).ownsRow b t s u n xs := fun ho h1 h2 =>
    owns_keep (owns_keep ho hK fun k e e2 => owns_apart ho a.wait h2 k e e2) hs fun k e => offg ho h1 k e
  have hvg : ∀ k, v.ownBlock = some k → k ≠ g := fun k e hg => owns_off h.row h.blk (by decide) (hg ▸ e)
  have hvl : ∀ k, v.ownBlock = some k → k < (w'.setCell ⟨g, 2, none⟩ v).heap.size := fun k e => Nat.lt_of_lt_of_le (World.ownsRow.lt h.row k e).2 hs.size
  refine ⟨fun k => T k ∨ (w.heap.size ≤ k ∧ k < (w'.setCell ⟨g, 2, none⟩ v).heap.size), ⟨.inl a.tg, ?_, h.blk.set 2 v, both a.all (by decide) (by decide), fun k e => .inl (a.ts k e), owns_keep h.row hs hvg, ?_, ?_, both a.reads (by decide) (by decide), fun k e => .inl (a.tr k e)⟩, ?_, ?_⟩
  · rintro k (hk | hk)
    · exact Nat.lt_of_lt_of_le (h0 k hk) hst
    · exact hk.2
  · intro k e
    rcases h.moved with q | ⟨k', e', hk'⟩
    · exact .inl (a.tw k (by rw [← q]; exact e))
    · rw [e] at e'
      cases e'
      exact .inr ⟨Nat.le_trans hwz hk', hvl k e⟩
  · intro y hy
    rcases List.mem_append.1 hy with hy | hy
    · exact ⟨both (a.byts y hy).1 (by decide) (by decide), fun k e => ⟨.inl ((a.byts y hy).2 k e).1, ((a.byts y hy).2 k e).2⟩⟩
    · rw [List.mem_singleton] at hy
      subst hy
      have hl := World.ownsRow.lt h.news
      exact ⟨both (owns_base h.news (Nat.zero_le _)) (by decide) (by decide), fun k e => ⟨.inr ⟨(hl k e).1, Nat.lt_of_lt_of_le (hl k e).2 hsz⟩, fun e2 => by
        have h1 := h0 k (a.ts k e2)
        have h2 := (hl k e).1
        omega⟩⟩
  · refine ⟨hs.os.trans (hK.os.trans h.below.os), hs.tape.trans (hK.tape.trans h.below.tape), hs.output.trans (hK.output.trans h.below.output), hst, fun k hT hlt => ?_⟩
    have e1 := h.below.block k hlt
    have e2 := hK.block k (fun e => hT (a.tw k e)) (by omega)
    have e3 := hs.block k (fun e => hT (e ▸ a.tg)) (by have := hK.size; omega)
    rw [e3, e2, e1]
  · rintro k (hk | hk)
    · exact .inl hk
    · exact .inr hk.1
set_option maxHeartbeats 4000000 in
set_option maxRecDepth 100000 in
theorem writeK_ok (T : Nat → Prop) (w : World) (g : Nat) (x : Kd) (i : Int) (v : Value) (B : List Int) (h : KAt T w g x) (hd : x.down = false) (hi : hasK x.R.length i = true) (hv : RowB w v B) (hB : (B.length : Int) = x.size) (hBl : B.length ≤ 1000) (hL : x.L.length ≤ 1001) (hvT : ∀ k, v.ownBlock = some k → ¬ T k) (hdn : 0 ≤ x.done ∧ x.done ≤ 1000000) (hl : rngI x.left) :
    Calls Try.prog 36 #[ptrD g, .int .i64 i, v] w fun e w' => ∃ T' u v', e = .returned (.int .i64 (cmdE x.left)) ∧ KAt T' w' g (cmdK { x with L := x.L ++ [(i, u, B)], wv := v' }) ∧ To T w T' w' := by
  obtain ⟨vo, vc, rfl⟩ := hv.shape
  have HH := Lib.hid (kHas_c w g x i h.blk h.reads.shape)
  rw [hi] at HH
  obtain ⟨bl, hbl⟩ : ∃ bl, B.length = bl := ⟨_, rfl⟩
  rw [hbl] at hv hvT hB
  have HX := Lib.hid h
  have HV := Lib.hid hv
  have HBL : Hid (B.length = bl ∧ bl ≤ 1000) := ⟨hbl, by omega⟩
  have HLL : Hid (x.L.length + 1 ≤ 100000) := Lib.hid (by omega)
  have HDN : Hid ((0 ≤ x.done ∧ x.done ≤ 1000000) ∧ rngI x.left) := ⟨hdn, hl⟩
  have hne : ((bl : Int) != x.size) = false := by simpa using hB
  have HLT := Lib.hid h.lt
  obtain ⟨d0, d1, d2, d3, d4, d5, d6⟩ := h.blk.k7
  rw [hd] at d6
  rw [hbl]
  clear h hd hi hv hB hBl hL hvT hdn hl hbl
  go_enter Try.func36, Try.ntmps36
  go_wp2_with fail
  refine (HH.out).mono ?_
  rintro e w1 ⟨rfl, hb⟩
  have HX1 : Hid (KAt T w1 g x ∧ (∀ k, T k → k < w1.heap.size) ∧ Below w.heap.size w w1 ∧ RowB w1 (.slice vo bl vc) B) := ⟨HX.out.grow hb, fun k hk => Nat.lt_of_lt_of_le (HLT.out k hk) hb.size, hb, HV.out.on hb⟩
  have HCL : Hid (∀ W, Below w1.heap.size w1 W → Calls Try.prog 43 #[.slice vo bl vc] W fun e w' => ∃ u, e = .returned u ∧ NewB w1.heap.size bl B u w' ∧ Below W.heap.size W w') := fun W hW => by
    refine (clone_c _ B W (HX1.out.2.2.2.on hW) (by have := HBL.out; omega)).mono ?_
    rintro e w' ⟨u, rfl, ho, hb'⟩
    obtain ⟨a, c, e⟩ := ho.shape
    rw [HBL.out.1] at e
    exact ⟨u, rfl, ⟨a, c, e, by rw [← e]; exact owns_base ho hW.size⟩, hb'⟩
  clear hb d0 d1 d2 d3 d4 d5 d6
  obtain ⟨d0, d1, d2, d3, d4, d5, d6⟩ := HX1.out.1.blk.k7
  go_upto_region 7 with fail
  clear d0 d1 d2 d3 d4 d5 d6 hne
  refine wp_region_put (by kernel_rfl) (by kernel_rfl) (by kernel_rfl) (fun b' vs w' => (b' 0 = true → vs 0 = ptrD g) ∧ (b' 1 = true → vs 1 = ptrD g) ∧ (b' 2 = true → vs 2 = .pointer (some ⟨g, 0, none⟩)) ∧ (b' 3 = true → vs 3 = .pointer (some ⟨g, 2, none⟩)) ∧ (b' 4 = true → vs 4 = x.wv) ∧ (b' 5 = true → vs 5 = .int .i64 i) ∧ (b' 6 = true → vs 6 = .slice vo bl vc) ∧ (b' 11 = true → vs 11 = .pointer (some ⟨g, 0, none⟩)) ∧ (b' 12 = true → vs 12 = .pointer (some ⟨g, 2, none⟩)) ∧ (b' 7 = true → b' 10 = false → Hid (NewB w1.heap.size bl B (vs 7) w')) ∧ (b' 8 = true → b' 10 = false → Hid (NewA w1.heap.size i bl B (vs 8) w')) ∧ (b' 9 = true → b' 10 = false → Hid (NewR w1.heap.size i bl B (vs 9) w')) ∧ (b' 10 = false → Hid (KAt T w' g x ∧ Below w1.heap.size w1 w')) ∧ (b' 10 = true → b' 13 = false → Hid (∃ u2 w2, KApp T w1 g x i B (vs 10) u2 w2 w')) ∧ (b' 13 = true → Hid (∃ v' u2 w2 w3, KApp T w1 g x i B v' u2 w2 w3 ∧ w' = w3.setCell ⟨g, 2, none⟩ v')) ∧ (b' 9 = true → b' 8 = true) ∧ (b' 8 = true → b' 7 = true) ∧ (b' 10 = true → b' 4 = true) ∧ (b' 10 = true → b' 7 = true) ∧ (b' 10 = true → b' 8 = true) ∧ (b' 10 = true → b' 9 = true) ∧ (b' 13 = true → b' 10 = true)) ?_ ?_ ?_
  · intro vs
    exact ⟨fun h => Bool.noConfusion h, fun h => Bool.noConfusion h, fun h => Bool.noConfusion h, fun h => Bool.noConfusion h, fun h => Bool.noConfusion h, fun h => Bool.noConfusion h, fun h => Bool.noConfusion h, fun h => Bool.noConfusion h, fun h => Bool.noConfusion h, fun h => Bool.noConfusion h, fun h => Bool.noConfusion h, fun h => Bool.noConfusion h, fun _ => Lib.hid (⟨HX1.out.1.grow (below_drewN (Below.refl _ _) 1), below_drewN (Below.refl _ _) 1⟩), fun h => Bool.noConfusion h, fun h => Bool.noConfusion h, fun h => Bool.noConfusion h, fun h => Bool.noConfusion h, fun h => Bool.noConfusion h, fun h => Bool.noConfusion h, fun h => Bool.noConfusion h, fun h => Bool.noConfusion h, fun h => Bool.noConfusion h⟩
  · rintro b' vs w' i op hi hun hall ⟨h0, h1, h2, h3, h4, h5, h6, h11, h12, y7, y8, y9, hF, yA, yS, hE9_8, hE8_7, hW4, hW7, hW8, hW9, hX⟩
    have hil : i < 14 := (List.getElem?_eq_some_iff.1 hi).1
    rcases i with _ | _ | _ | _ | _ | _ | _ | _ | _ | _ | _ | _ | _ | _ | i
    · obtain rfl := Option.some.inj hi
      clear hi hil
      refine wpOp_step rfl (fun K hK => ?_)
      have HKK := Lib.hid hK; clear hK
      simp only [putAll, Act.put, List.setIfInBounds_toArray, List.set_cons_zero, List.set_cons_succ]
      go_simp
      exact HKK.out _ _ ⟨_, by simp only [putAll, Act.put, List.setIfInBounds_toArray, List.set_cons_zero, List.set_cons_succ] <;> rfl, fun _ => rfl, h1, h2, h3, h4, h5, h6, h11, h12, y7, y8, y9, hF, yA, yS, hE9_8, hE8_7, hW4, hW7, hW8, hW9, hX⟩
    · obtain rfl := Option.some.inj hi
      clear hi hil
      refine wpOp_step rfl (fun K hK => ?_)
      have HKK := Lib.hid hK; clear hK
      simp only [putAll, Act.put, List.setIfInBounds_toArray, List.set_cons_zero, List.set_cons_succ]
      go_simp
      exact HKK.out _ _ ⟨_, by simp only [putAll, Act.put, List.setIfInBounds_toArray, List.set_cons_zero, List.set_cons_succ] <;> rfl, h0, fun _ => rfl, h2, h3, h4, h5, h6, h11, h12, y7, y8, y9, hF, yA, yS, hE9_8, hE8_7, hW4, hW7, hW8, hW9, hX⟩
    · obtain rfl := Option.some.inj hi
      clear hi hil
      have d1 := h1 (hall ⟨1, .data⟩ (by simp) rfl)
      refine wpOp_step rfl (fun K hK => ?_)
      have HKK := Lib.hid hK; clear hK
      simp only [putAll, Act.put, List.setIfInBounds_toArray, List.set_cons_zero, List.set_cons_succ]
      go_simp
      exact HKK.out _ _ ⟨_, by simp only [putAll, Act.put, List.setIfInBounds_toArray, List.set_cons_zero, List.set_cons_succ, d1] <;> rfl, h0, h1, fun _ => rfl, h3, h4, h5, h6, h11, h12, y7, y8, y9, hF, yA, yS, hE9_8, hE8_7, hW4, hW7, hW8, hW9, hX⟩
    · obtain rfl := Option.some.inj hi
      clear hi hil
      have d2 := h2 (hall ⟨2, .data⟩ (by simp) rfl)
      refine wpOp_step rfl (fun K hK => ?_)
      have HKK := Lib.hid hK; clear hK
      simp only [putAll, Act.put, List.setIfInBounds_toArray, List.set_cons_zero, List.set_cons_succ]
      go_simp
      exact HKK.out _ _ ⟨_, by simp only [putAll, Act.put, List.setIfInBounds_toArray, List.set_cons_zero, List.set_cons_succ, d2] <;> rfl, h0, h1, h2, fun _ => rfl, h4, h5, h6, h11, h12, y7, y8, y9, hF, yA, yS, hE9_8, hE8_7, hW4, hW7, hW8, hW9, hX⟩
    · obtain rfl := Option.some.inj hi
      clear hi hil
      have d3 := h3 (hall ⟨3, .data⟩ (by simp) rfl)
      have na : b' 10 = false := by
        cases hz : b' 10 with
        | false => rfl
        | true => exact absurd (hW4 hz) (by rw [hun]; decide)
      have hS := hF na
      obtain ⟨k0, k1, k2, k3, k4, k5, k6⟩ := hS.out.1.blk.k7
      refine wpOp_step rfl (fun K hK => ?_)
      have HKK := Lib.hid hK; clear hK
      simp only [putAll, Act.put, List.setIfInBounds_toArray, List.set_cons_zero, List.set_cons_succ]
      go_simp
      exact HKK.out _ _ ⟨_, by simp only [putAll, Act.put, List.setIfInBounds_toArray, List.set_cons_zero, List.set_cons_succ, d3] <;> rfl, h0, h1, h2, h3, fun _ => rfl, h5, h6, h11, h12, y7, y8, y9, hF, yA, yS, hE9_8, hE8_7, fun _ => rfl, hW7, hW8, hW9, hX⟩
    · obtain rfl := Option.some.inj hi
      clear hi hil
      refine wpOp_step rfl (fun K hK => ?_)
      have HKK := Lib.hid hK; clear hK
      simp only [putAll, Act.put, List.setIfInBounds_toArray, List.set_cons_zero, List.set_cons_succ]
      go_simp
      exact HKK.out _ _ ⟨_, by simp only [putAll, Act.put, List.setIfInBounds_toArray, List.set_cons_zero, List.set_cons_succ] <;> rfl, h0, h1, h2, h3, h4, fun _ => rfl, h6, h11, h12, y7, y8, y9, hF, yA, yS, hE9_8, hE8_7, hW4, hW7, hW8, hW9, hX⟩
    · obtain rfl := Option.some.inj hi
      clear hi hil
      refine wpOp_step rfl (fun K hK => ?_)
      have HKK := Lib.hid hK; clear hK
      simp only [putAll, Act.put, List.setIfInBounds_toArray, List.set_cons_zero, List.set_cons_succ]
      go_simp
      exact HKK.out _ _ ⟨_, by simp only [putAll, Act.put, List.setIfInBounds_toArray, List.set_cons_zero, List.set_cons_succ] <;> rfl, h0, h1, h2, h3, h4, h5, fun _ => rfl, h11, h12, y7, y8, y9, hF, yA, yS, hE9_8, hE8_7, hW4, hW7, hW8, hW9, hX⟩
    · obtain rfl := Option.some.inj hi
      clear hi hil
      have d6 := h6 (hall ⟨6, .data⟩ (by simp) rfl)
      have na : b' 10 = false := by
        cases hz : b' 10 with
        | false => rfl
        | true => exact absurd (hW7 hz) (by rw [hun]; decide)
      have hS := hF na
      refine wpOp_step rfl (fun K hK => ?_)
      have HKK := Lib.hid hK; clear hK
      simp only [putAll, Act.put, List.setIfInBounds_toArray, List.set_cons_zero, List.set_cons_succ]
      go_simp
      refine (HCL.out w' hS.out.2).mono ?_
      rintro e w2 ⟨u2, rfl, ho2, hb2⟩
      exact HKK.out _ _ ⟨_, by simp only [putAll, Act.put, List.setIfInBounds_toArray, List.set_cons_zero, List.set_cons_succ, d6] <;> rfl, h0, h1, h2, h3, h4, h5, h6, h11, h12, fun _ _ => Lib.hid (ho2), fun h ha => Lib.hid ((y8 h ha).out.grow hb2), fun h ha => Lib.hid ((y9 h ha).out.grow hb2), fun ha => Lib.hid (⟨hS.out.1.grow hb2, hS.out.2.trans (hb2.mono hS.out.2.size)⟩), fun h => absurd (show b' 10 = true from h) (by rw [na]; decide), fun h => absurd (hX (show b' 13 = true from h)) (by rw [na]; decide), hE9_8, fun _ => rfl, hW4, fun _ => rfl, hW8, hW9, hX⟩
    · obtain rfl := Option.some.inj hi
      clear hi hil
      have d5 := h5 (hall ⟨5, .data⟩ (by simp) rfl)
      have na : b' 10 = false := by
        cases hz : b' 10 with
        | false => rfl
        | true => exact absurd (hW8 hz) (by rw [hun]; decide)
      have hS := hF na
      have o7 := y7 (hall ⟨7, .data⟩ (by simp) rfl) na
      obtain ⟨ua, uc, e7, ho7⟩ := o7.out
      refine wpOp_step rfl (fun K hK => ?_)
      have HKK := Lib.hid hK; clear hK
      simp only [putAll, Act.put, List.setIfInBounds_toArray, List.set_cons_zero, List.set_cons_succ]
      go_simp
      exact HKK.out _ _ ⟨_, by simp only [putAll, Act.put, List.setIfInBounds_toArray, List.set_cons_zero, List.set_cons_succ, d5, e7] <;> rfl, h0, h1, h2, h3, h4, h5, h6, h11, h12, y7, fun _ _ => Lib.hid (⟨ua, uc, rfl, ho7⟩), y9, hF, yA, yS, fun _ => rfl, fun _ => hall ⟨7, .data⟩ (by simp) rfl, hW4, hW7, fun _ => rfl, hW9, hX⟩
    · obtain rfl := Option.some.inj hi
      clear hi hil
      have na : b' 10 = false := by
        cases hz : b' 10 with
        | false => rfl
        | true => exact absurd (hW9 hz) (by rw [hun]; decide)
      have hS := hF na
      have o8 := y8 (hall ⟨8, .data⟩ (by simp) rfl) na
      obtain ⟨ua, uc, e8, ho8⟩ := o8.out
      refine wpOp_step rfl (fun K hK => ?_)
      have HKK := Lib.hid hK; clear hK
      simp only [putAll, Act.put, List.setIfInBounds_toArray, List.set_cons_zero, List.set_cons_succ]
      go_simp
      have hb2 : Below w'.heap.size w' (w'.alloc (.cells #[.int .i64 i, .slice ua bl uc] 81)) := (Below.refl _ _).alloc (Nat.le_refl _) _
      exact HKK.out _ _ ⟨_, by simp only [putAll, Act.put, List.setIfInBounds_toArray, List.set_cons_zero, List.set_cons_succ, e8] <;> rfl, h0, h1, h2, h3, h4, h5, h6, h11, h12, fun h ha => Lib.hid ((y7 h ha).out.grow hb2), fun h ha => Lib.hid ((y8 h ha).out.grow hb2), fun _ _ => Lib.hid (NewR.made ho8), fun ha => Lib.hid (⟨hS.out.1.grow hb2, hS.out.2.trans (hb2.mono hS.out.2.size)⟩), fun h => absurd (show b' 10 = true from h) (by rw [na]; decide), fun h => absurd (hX (show b' 13 = true from h)) (by rw [na]; decide), fun _ => hall ⟨8, .data⟩ (by simp) rfl, hE8_7, hW4, hW7, hW8, fun _ => rfl, hX⟩
    · obtain rfl := Option.some.inj hi
      clear hi hil
      have d4 := h4 (hall ⟨4, .data⟩ (by simp) rfl)
      have hS := hF hun
      have o9 := y9 (hall ⟨9, .data⟩ (by simp) rfl) hun
      obtain ⟨q, ua, uc, e9, hq, hql, ho9⟩ := o9.out
      refine wpOp_step rfl (fun K hK => ?_)
      have HKK := Lib.hid hK; clear hK
      simp only [putAll, Act.put, List.setIfInBounds_toArray, List.set_cons_zero, List.set_cons_succ]
      refine (if_pos rfl).mpr (wp_append_k _ _ 67 rfl Try.underlying67 x.wv x.L (i, .slice ua bl uc, B) d4 hS.out.1.wait q e9 hq rfl HLL.out ?_)
      intro v' w2 ho2 hg2 hm2
      exact HKK.out _ _ ⟨_, by simp only [putAll, Act.put, List.setIfInBounds_toArray, List.set_cons_zero, List.set_cons_succ, d4] <;> rfl, h0, h1, h2, h3, h4, h5, h6, h11, h12, fun _ h => Bool.noConfusion h, fun _ h => Bool.noConfusion h, fun _ h => Bool.noConfusion h, fun h => Bool.noConfusion h, fun _ _ => Lib.hid (⟨_, _, hS.out.1, hS.out.2, ho9, hg2, ho2, hm2⟩), fun h => absurd (hX (show b' 13 = true from h)) (by rw [hun]; decide), hE9_8, hE8_7, fun _ => hall ⟨4, .data⟩ (by simp) rfl, fun _ => hE8_7 (hE9_8 (hall ⟨9, .data⟩ (by simp) rfl)), fun _ => hE9_8 (hall ⟨9, .data⟩ (by simp) rfl), fun _ => hall ⟨9, .data⟩ (by simp) rfl, fun _ => rfl⟩
    · obtain rfl := Option.some.inj hi
      clear hi hil
      have d0 := h0 (hall ⟨0, .data⟩ (by simp) rfl)
      refine wpOp_step rfl (fun K hK => ?_)
      have HKK := Lib.hid hK; clear hK
      simp only [putAll, Act.put, List.setIfInBounds_toArray, List.set_cons_zero, List.set_cons_succ]
      go_simp
      exact HKK.out _ _ ⟨_, by simp only [putAll, Act.put, List.setIfInBounds_toArray, List.set_cons_zero, List.set_cons_succ, d0] <;> rfl, h0, h1, h2, h3, h4, h5, h6, fun _ => rfl, h12, y7, y8, y9, hF, yA, yS, hE9_8, hE8_7, hW4, hW7, hW8, hW9, hX⟩
    · obtain rfl := Option.some.inj hi
      clear hi hil
      have d11 := h11 (hall ⟨11, .data⟩ (by simp) rfl)
      refine wpOp_step rfl (fun K hK => ?_)
      have HKK := Lib.hid hK; clear hK
      simp only [putAll, Act.put, List.setIfInBounds_toArray, List.set_cons_zero, List.set_cons_succ]
      go_simp
      exact HKK.out _ _ ⟨_, by simp only [putAll, Act.put, List.setIfInBounds_toArray, List.set_cons_zero, List.set_cons_succ, d11] <;> rfl, h0, h1, h2, h3, h4, h5, h6, h11, fun _ => rfl, y7, y8, y9, hF, yA, yS, hE9_8, hE8_7, hW4, hW7, hW8, hW9, hX⟩
    · obtain rfl := Option.some.inj hi
      clear hi hil
      have d12 := h12 (hall ⟨12, .data⟩ (by simp) rfl)
      have ta : b' 10 = true := hall ⟨10, .data⟩ (by simp) rfl
      have oA := yA ta hun
      have q4 := h4 (hW4 ta)
      obtain ⟨u2, w2, hA⟩ := oA.out
      obtain ⟨k0, k1, k2, k3, k4, k5, k6⟩ := hA.blk.k7
      have f2 := hA.blk.free 2
      have lg := hA.blk.lt
      have hsl := hA.row.row.shape
      obtain ⟨ra, rc, e10⟩ := hsl
      simp only [List.length_append, List.length_cons, List.length_nil, Nat.zero_add] at e10
      refine wpOp_step rfl (fun K hK => ?_)
      have HKK := Lib.hid hK; clear hK
      simp only [putAll, Act.put, List.setIfInBounds_toArray, List.set_cons_zero, List.set_cons_succ]
      go_simp
      exact HKK.out _ _ ⟨undef, by simp only [putAll, Act.put, List.setIfInBounds_toArray, List.set_cons_zero, List.set_cons_succ, d12, e10, q4] <;> rfl, h0, h1, h2, h3, h4, h5, h6, h11, h12, fun _ h => absurd (show b' 10 = false from h) (by rw [ta]; decide), fun _ h => absurd (show b' 10 = false from h) (by rw [ta]; decide), fun _ h => absurd (show b' 10 = false from h) (by rw [ta]; decide), fun h => absurd (show b' 10 = false from h) (by rw [ta]; decide), fun _ h => Bool.noConfusion h, fun _ => Lib.hid (⟨_, _, _, _, hA, by rw [e10]⟩), hE9_8, hE8_7, hW4, hW7, hW8, hW9, fun _ => ta⟩
    · omega
  · rintro b' vs w2 hall ⟨h0, h1, h2, h3, h4, h5, h6, h11, h12, y7, y8, y9, hF, yA, yS, hE9_8, hE8_7, hW4, hW7, hW8, hW9, hX⟩
    have d0 := h0 (hall 0 (by simp))
    have d1 := h1 (hall 1 (by simp))
    have d2 := h2 (hall 2 (by simp))
    have d3 := h3 (hall 3 (by simp))
    have d4 := h4 (hall 4 (by simp))
    have d5 := h5 (hall 5 (by simp))
    have d6 := h6 (hall 6 (by simp))
    have d11 := h11 (hall 11 (by simp))
    have d12 := h12 (hall 12 (by simp))
    have PP := yS (hall 13 (by simp))
    simp only [putAll, Act.put, List.setIfInBounds_toArray, List.set_cons_zero, List.set_cons_succ, d0, d1, d2, d3, d4, d5, d6, d11, d12]
    clear hall h0 d0 h1 d1 h2 d2 h3 d3 h4 d4 h5 d5 h6 d6 h11 d11 h12 d12 y7 y8 y9 hF yA yS hE9_8 hE8_7 hW4 hW7 hW8 hW9 hX
    generalize vs 7 = vM7 at *
    generalize vs 8 = vM8 at *
    generalize vs 9 = vM9 at *
    generalize vs 10 = vM10 at *
    obtain ⟨v', u2, w2', w3', hA, rfl⟩ := PP.out
    obtain ⟨T2, hk2, ht2⟩ := hA.done HX1.out.2.1
    have H2 : Hid (KAt T2 _ g _ ∧ To T w1 T2 _) := ⟨hk2, ht2⟩
    have HUL : Hid (u2 = u2) := rfl
    clear PP hA hk2 ht2
    generalize w3'.setCell ⟨g, 2, none⟩ v' = w4 at *
    go_wp2_with fail
    refine (kCommand_c w4 g _ H2.out.1.blk HDN.out.1 HDN.out.2).mono ?_
    rintro e w5 ⟨rfl, hb5, hk5⟩
    have H5 : Hid (∃ u2 v', KAt T2 w5 g (cmdK { x with L := x.L ++ [(i, u2, B)], wv := v' }) ∧ To T w T2 w5) := ⟨u2, v', H2.out.1.cmd hb5 hk5, (To.below HX1.out.2.2.1).trans (H2.out.2.trans (To.cell H2.out.1.tg hk5))⟩
    clear hb5 hk5
    go_wp2_with fail
    go_ret
    obtain ⟨u2, v', q1, q2⟩ := H5.out
    exact ⟨T2, u2, v', rfl, q1, q2⟩
end Go.Proofs.Ytdcjchakgfpgaaa
namespace Go.Proofs.Ytdcjchakgfpgaaa
open Go.RowKit
set_option maxHeartbeats 4000000 in
set_option maxRecDepth 100000 in
theorem writeK_down (w : World) (g : Nat) (x : Kd) (i : Int) (v : Value) (h : Blk w g 69 x.cells) (hd : x.down = true) : Calls Try.prog 36 #[ptrD g, .int .i64 i, v] w fun e w' => e = .returned (.int .i64 40) ∧ Below w.heap.size w w' := by
  obtain ⟨d0, d1, d2, d3, d4, d5, d6⟩ := h.k7
  rw [hd] at d6
  clear h hd
  go_enter Try.func36, Try.ntmps36
  go_wp2_with fail
  go_ret
  exact ⟨rfl, Below.refl _ _⟩
set_option maxHeartbeats 4000000 in
set_option maxRecDepth 100000 in
theorem writeK_range (T : Nat → Prop) (w : World) (g : Nat) (x : Kd) (i : Int) (v : Value) (h : KAt T w g x) (hd : x.down = false) (hi : hasK x.R.length i = false) : Calls Try.prog 36 #[ptrD g, .int .i64 i, v] w fun e w' => e = .returned (.int .i64 30) ∧ Below w.heap.size w w' := by
  have HH := Lib.hid (kHas_c w g x i h.blk h.reads.shape)
  rw [hi] at HH
  obtain ⟨d0, d1, d2, d3, d4, d5, d6⟩ := h.blk.k7
  rw [hd] at d6
  clear h hd hi
  go_enter Try.func36, Try.ntmps36
  go_wp2_with fail
  refine (HH.out).mono ?_
  rintro e w1 ⟨rfl, hb⟩
  have H1 := Lib.hid hb
  clear hb
  go_wp2_with fail
  go_ret
  exact ⟨rfl, H1.out⟩
set_option maxHeartbeats 4000000 in
set_option maxRecDepth 100000 in
theorem writeK_size (T : Nat → Prop) (w : World) (g : Nat) (x : Kd) (i : Int) (vo : Option Addr) (vn vc : Nat) (h : KAt T w g x) (hd : x.down = false) (hi : hasK x.R.length i = true) (hn : (vn : Int) ≠ x.size) : Calls Try.prog 36 #[ptrD g, .int .i64 i, .slice vo vn vc] w fun e w' => e = .returned (.int .i64 41) ∧ Below w.heap.size w w' := by
  have HH := Lib.hid (kHas_c w g x i h.blk h.reads.shape)
  rw [hi] at HH
  have HX := Lib.hid h
  obtain ⟨d0, d1, d2, d3, d4, d5, d6⟩ := h.blk.k7
  rw [hd] at d6
  have hne : ((vn : Int) != x.size) = true := by simpa using hn
  clear h hd hi hn
  go_enter Try.func36, Try.ntmps36
  go_wp2_with fail
  refine (HH.out).mono ?_
  rintro e w1 ⟨rfl, hb⟩
  have H1 := Lib.hid hb
  obtain ⟨z0, z1, z2, z3, z4, z5, z6⟩ := (HX.out.grow hb).blk.k7
  clear hb d0 d1 d2 d3 d4 d5 d6
  go_wp2_with fail
  go_ret
  exact ⟨rfl, H1.out⟩
theorem Rel.has {x : Kd} {d : DM} (r : Rel x d) (ok : OkD d 1000) (i : Int) : hasK x.R.length i = hasD d i := by
  have e : (x.R.length : Int) = d.sectors := by rw [r.reads]; exact ok.rlen
  unfold hasK hasD
  rw [e]
theorem kWrite_c (T : Nat → Prop) (w : World) (g : Nat) (d : DM) (i : Int) (v : Value) (b : List Int) (h : At12 T w g d) (ok : OkD d 1000) (_hi : rngI i) (hv : RowB w v b) (_hc : CapS v) (hl : b.length ≤ 1000) (_hb : OkB b) (hT : ∀ k, v.ownBlock = some k → ¬ T k) : Calls Try.prog 36 #[ptrD g, .int .i64 i, v] w fun e w' => ∃ T', e = .returned (.int .i64 (writeD d i b).2) ∧ At12 T' w' g (writeD d i b).1 ∧ To T w T' w' := by
  obtain ⟨x, hx, hr⟩ := h
  obtain ⟨z, hz⟩ := hr.okL ok
  have hdn : 0 ≤ x.done ∧ x.done ≤ 1000000 := by have := ok.done; have := hr.done; omega
  have hh := hr.has ok i
  unfold writeD
  by_cases hd0 : d.down = true
  · rw [if_pos hd0]
    refine (writeK_down w g x i v hx.blk (by rw [hr.down]; exact hd0)).mono ?_
    rintro e w' ⟨rfl, hb⟩
    exact ⟨T, rfl, ⟨x, hx.grow hb, hr⟩, To.below hb⟩
  · rw [if_neg hd0]
    have hd : d.down = false := by simpa using hd0
    by_cases hi : hasD d i = false
    · rw [if_pos hi]
      refine (writeK_range T w g x i v hx (by rw [hr.down]; exact hd) (by rw [hh]; exact hi)).mono ?_
      rintro e w' ⟨rfl, hb⟩
      exact ⟨T, rfl, ⟨x, hx.grow hb, hr⟩, To.below hb⟩
    · rw [if_neg hi]
      have hi : hasD d i = true := by simpa using hi
      by_cases hn : (b.length : Int) = d.size
      · rw [if_neg (by simpa using hn)]
        refine (writeK_ok T w g x i v b hx (by rw [hr.down]; exact hd) (by rw [hh]; exact hi) hv (by rw [hr.size]; exact hn) hl (by have := hz.few; omega) hT hdn hr.rng).mono ?_
        rintro e w' ⟨T', u, v', rfl, hk, ht⟩
        have hr2 : Rel { x with L := x.L ++ [(i, u, b)], wv := v' } { d with wait := d.wait ++ [(i, b)] } :=
          ⟨hr.size, hr.all, by show mapW (x.L ++ [(i, u, b)]) = d.wait ++ [(i, b)]; rw [← hr.wait]; unfold mapW; rw [List.map_append]; rfl, hr.reads, hr.done, hr.down, hr.armed, hr.free, hr.rng⟩
        obtain ⟨h1, h2⟩ := hr2.cmd ok.left
        exact ⟨T', by rw [← h2], ⟨_, hk, h1⟩, ht⟩
      · rw [if_pos hn]
        obtain ⟨vo, vc, rfl⟩ := hv.shape
        refine (writeK_size T w g x i vo b.length vc hx (by rw [hr.down]; exact hd) (by rw [hh]; exact hi) (by rw [hr.size]; exact hn)).mono ?_
        rintro e w' ⟨rfl, hb⟩
        exact ⟨T, rfl, ⟨x, hx.grow hb, hr⟩, To.below hb⟩
end Go.Proofs.Ytdcjchakgfpgaaa
