/- Layer 8: a row of samples is laid into a mask. -/
import Derived.Test.YtopngjpgikpmaaaCh
import Derived.BigQuiet
namespace Go.Proofs.Ytopngjpgikpmaaa
open Go.RowKit Go.Shelf
attribute [local go_sem] Oper.semAt_some
theorem sum_bound (E : Nat) : ∀ l : List Int, (∀ v ∈ l, -(E : Int) ≤ v ∧ v ≤ E) → -((E * l.length : Nat) : Int) ≤ l.sum ∧ l.sum ≤ ((E * l.length : Nat) : Int)
  | [], _ => by simp
  | a :: l, h => by
    have h1 := sum_bound E l (fun v hv => h v (List.mem_cons_of_mem _ hv))
    have h2 := h a (List.mem_cons_self ..)
    rw [List.sum_cons, List.length_cons, Nat.mul_succ]
    omega
theorem suf_bound {E : Nat} {L : List Int} (h : ∀ v ∈ L, -(E : Int) ≤ v ∧ v ≤ E) (cols r k : Nat) (hE : E ≤ 100000) (hc : cols ≤ 1024) : -102400000 ≤ suf L cols r k ∧ suf L cols r k ≤ 102400000 := by
  unfold suf
  have h1 := sum_bound E ((L.drop (r * cols + k)).take (cols - k)) (fun v hv => h v (List.mem_of_mem_drop (List.mem_of_mem_take hv)))
  have h2 : ((L.drop (r * cols + k)).take (cols - k)).length ≤ 1024 := by rw [List.length_take]; omega
  have h3 := Nat.mul_le_mul hE h2
  omega
theorem cut_ints (h N l1 l2 : Nat) (hl : l1 ≤ l2) (hN : l2 ≤ N) (h0 : l1 < N) (w' : World) : (Instr.sliceAt 64 (.slice (some ⟨h, 0, none⟩) N N) (some (.int .i64 (l1 : Int))) (some (.int .i64 (l2 : Int))) none).run Try.prog w' = .ok (.slice (some ⟨h, l1, none⟩) (l2 - l1) (N - l1)) w' := by
  have h1 : (l1 : Int) ≤ (l2 : Int) := by omega
  have h2 : (l2 : Int) ≤ (N : Int) := by omega
  have h3 : (0 : Int) ≤ (l1 : Int) := by omega
  have h4 : (0 : Int) ≤ (l2 : Int) := by omega
  have h5 : N ≠ l1 := by omega
  have hrun : (Instr.sliceAt 64 (.slice (some ⟨h, 0, none⟩) N N) (some (.int .i64 (l1 : Int))) (some (.int .i64 (l2 : Int))) none).run Try.prog w' = .ok (sliced (some ⟨h, 0, none⟩) l1 l2 N 1) w' := by
    go_simp
  rw [hrun]
  unfold sliced
  rw [if_neg h5]
  simp [Addr.add_lit]
theorem cut_bytes (h N l1 : Nat) (h0 : l1 < N) (w' : World) : (Instr.sliceAt 29 (.slice (some ⟨h, 0, none⟩) N N) (some (.int .i64 (l1 : Int))) none none).run Try.prog w' = .ok (.slice (some ⟨h, l1, none⟩) (N - l1) (N - l1)) w' := by
  have h1 : (l1 : Int) ≤ (N : Int) := by omega
  have h3 : (0 : Int) ≤ (l1 : Int) := by omega
  have h5 : N ≠ l1 := by omega
  have hrun : (Instr.sliceAt 29 (.slice (some ⟨h, 0, none⟩) N N) (some (.int .i64 (l1 : Int))) none none).run Try.prog w' = .ok (sliced (some ⟨h, 0, none⟩) l1 N N 1) w' := by
    go_simp
  rw [hrun]
  unfold sliced
  rw [if_neg h5]
  simp [Addr.add_lit]
/-- What the call has at hand. -/
structure LayS (w : World) (n0 g h hm : Nat) (fx fy : Int) (cols rows N : Nat) (L : List Int) (rule : Int) (p pn pc : Nat) (t : Int) (M : List Nat) : Prop where
  k : FieldAt w g h fx fy cols rows N L
  m : Blk w hm 5 (bytesA M)
  a : Blk w n0 3 #[.int .i64 rule]
  s : Blk w (n0 + 1) 29 #[.slice (some ⟨hm, p, none⟩) pn pc]
  t : Blk w (n0 + 1 + 1) 3 #[.int .i64 t]
theorem LayS.grow {w w' : World} {n0 g h hm : Nat} {fx fy : Int} {cols rows N : Nat} {L : List Int} {rule : Int} {p pn pc : Nat} {t : Int} {M : List Nat} (k : LayS w n0 g h hm fx fy cols rows N L rule p pn pc t M) (hb : Below w.heap.size w w') : LayS w' n0 g h hm fx fy cols rows N L rule p pn pc t M :=
  ⟨k.k.grow hb, k.m.grow hb, k.a.grow hb, k.s.grow hb, k.t.grow hb⟩
theorem LayS.keep {S : Nat → Prop} {w w' : World} {n0 g h hm : Nat} {fx fy : Int} {cols rows N : Nat} {L : List Int} {rule : Int} {p pn pc : Nat} {t : Int} {M : List Nat} (k : LayS w n0 g h hm fx fy cols rows N L rule p pn pc t M) (hk : Keep S w w') (h1 : S g) (h2 : S h) (h3 : S hm) (h4 : S n0) (h5 : S (n0 + 1)) (h6 : S (n0 + 1 + 1)) : LayS w' n0 g h hm fx fy cols rows N L rule p pn pc t M :=
  ⟨⟨hk.blk k.k.f h1, hk.blk k.k.r h2, k.k.len, k.k.ne⟩, hk.blk k.m h3, hk.blk k.a h4, hk.blk k.s h5, hk.blk k.t h6⟩
theorem LayS.setT {w : World} {n0 g h hm : Nat} {fx fy : Int} {cols rows N : Nat} {L : List Int} {rule : Int} {p pn pc : Nat} {t : Int} {M : List Nat} (k : LayS w n0 g h hm fx fy cols rows N L rule p pn pc t M) (t' : Int) (h1 : g < n0) (h2 : h < n0) (h3 : hm < n0) : LayS (w.setCell ⟨n0 + 1 + 1, 0, none⟩ (.int .i64 t')) n0 g h hm fx fy cols rows N L rule p pn pc t' M :=
  ⟨⟨k.k.f.other _ _ (by show g ≠ n0 + 1 + 1; omega), k.k.r.other _ _ (by show h ≠ n0 + 1 + 1; omega), k.k.len, k.k.ne⟩, k.m.other _ _ (by show hm ≠ n0 + 1 + 1; omega), k.a.other _ _ (by show n0 ≠ n0 + 1 + 1; omega), k.s.other _ _ (by show n0 + 1 ≠ n0 + 1 + 1; omega), k.t.set 0 (.int .i64 t')⟩
theorem LayS.setM {w : World} {n0 g h hm : Nat} {fx fy : Int} {cols rows N : Nat} {L : List Int} {rule : Int} {p pn pc : Nat} {t : Int} {M : List Nat} (k : LayS w n0 g h hm fx fy cols rows N L rule p pn pc t M) (j x : Nat) (h1 : hm ≠ g) (h2 : hm ≠ h) (h3 : hm < n0) : LayS (w.setCell ⟨hm, j, none⟩ (.int .u8 (x : Int))) n0 g h hm fx fy cols rows N L rule p pn pc t (M.set j x) :=
  ⟨⟨k.k.f.other _ _ (Ne.symm h1), k.k.r.other _ _ (Ne.symm h2), k.k.len, k.k.ne⟩, k.m.setByte j x, k.a.other _ _ (by show n0 ≠ hm; omega), k.s.other _ _ (by show n0 + 1 ≠ hm; omega), k.t.other _ _ (by show n0 + 1 + 1 ≠ hm; omega)⟩
set_option maxHeartbeats 8000000 in
set_option maxRecDepth 100000 in
theorem lay_walk (w : World) (g h hm : Nat) (fx fy : Int) (cols rows N E rc rc1 : Nat) (L : List Int) (r : Nat) (rule : Int) (M : List Nat) (ins : Nat → Nat → Bool) (NM W ox oy p pn pc : Nat)
    (hF : FieldAt w g h fx fy cols rows N L) (hM : Blk w hm 5 (bytesA M)) (hMe : M = maskD ins NM W ox oy rows cols r cols) (hne : hm ≠ h) (hne2 : hm ≠ g)
    (hr : r < rows) (hN : cols * rows = N) (hc0 : 0 < cols) (hc : cols ≤ 1024) (hr2 : rows ≤ 1024) (hE : E ≤ 100000) (hL : ∀ v ∈ L, -(E : Int) ≤ v ∧ v ≤ E)
    (hrc : r * cols = rc) (hrc1 : (r + 1) * cols = rc1) (hins : ∀ k, k < cols → inI rule (suf L cols r k) = ins r k)
    (hp : (oy + r / 4) * W + ox = p) (hW : ∀ k, k < cols → ox + k / 4 < W) (hpn : ∀ k, k < cols → k / 4 < pn) (hNM : ∀ k, k < cols → p + k / 4 < NM) :
    Calls Try.prog 33 #[.pointer (some ⟨g, 0, none⟩), .int .i64 (r : Int), .int .i64 rule, .slice (some ⟨hm, p, none⟩) pn pc] w fun e w' => e = .returned (.tuple #[]) ∧ Blk w' hm 5 (bytesA (maskD ins NM W ox oy rows cols (r + 1) cols)) ∧ Keep (fun j => j ≠ hm) w w' := by
  have hrN : rc1 ≤ N ∧ N ≤ 1048576 ∧ rc + cols = rc1 := by
    have h1 := Nat.mul_le_mul_right cols (show r + 1 ≤ rows from hr)
    have h2 := Nat.mul_le_mul hc hr2
    rw [Nat.mul_comm rows cols] at h1
    rw [Nat.succ_mul] at hrc1
    have h4 : (r + 1) * cols = r * cols + cols := Nat.succ_mul _ _
    omega
  obtain ⟨hr1, hr3, hr4⟩ := hrN
  have hrle : r ≤ 1024 := by omega
  have ew1 : IntKind.i64.wrap ((r : Int) * (cols : Int)) = (rc : Int) := by
    rw [wrap_is, ← Int.natCast_mul, hrc]; exact wrapR _ (by omega) (by omega)
  have ew2 : IntKind.i64.wrap ((r : Int) + 1) = (r : Int) + 1 := by rw [wrap_is]; exact wrapR _ (by omega) (by omega)
  have ew3 : IntKind.i64.wrap (((r : Int) + 1) * (cols : Int)) = (rc1 : Int) := by
    rw [wrap_is, show ((r : Int) + 1) * (cols : Int) = (((r + 1) * cols : Nat) : Int) by rw [Int.natCast_mul]; rfl, hrc1]; exact wrapR _ (by omega) (by omega)
  have HF := Lib.hid hF; have HM := Lib.hid hM; have HME := Lib.hid hMe; have HNE := Lib.hid hne; have HNE2 := Lib.hid hne2; have HR := Lib.hid hr; have HNN := Lib.hid hN; have HC := Lib.hid hc; have HEE := Lib.hid hE; have HL := Lib.hid hL
  have HRC := Lib.hid hrc; have HRC1 := Lib.hid hrc1; have HINS := Lib.hid hins; have HP := Lib.hid hp; have HWW := Lib.hid hW; have HPN := Lib.hid hpn; have HNM := Lib.hid hNM; have EW1 := Lib.hid ew1; have EW2 := Lib.hid ew2; have EW3 := Lib.hid ew3
  have HSL : Hid (rc ≤ rc1 ∧ rc1 ≤ N ∧ rc + cols = rc1 ∧ 0 < cols) := ⟨by omega, hr1, hr4, hc0⟩
  clear hF hM hMe hne hne2 hr hN hc hc0 hr2 hE hL hrc hrc1 hins hp hW hpn hNM ew1 ew2 ew3 hr1 hr3 hr4 hrle
  refine callsIn_wide.1 (callsIn_of_wp_marks (n := 9) Try.func33 rfl trivial (wpIn_wide.2 ?_))
  simp only [Try.ntmps33, List.size_toArray, List.length_cons, List.length_nil, Nat.reduceAdd, Nat.reduceSub, Array.replicate_succ, Array.replicate_zero, List.push_toArray, List.append_toArray, List.nil_append, List.cons_append]
  go_wp2_with fail
  obtain ⟨W1, hW1⟩ : ∃ X, ((w.alloc (.cells #[.int .i64 rule] 3)).alloc (.cells #[.slice (some ⟨hm, p, none⟩) pn pc] 29)).alloc (.cells #[.int .i64 0] 3) = X := ⟨_, rfl⟩
  have S1 : Hid (LayS W1 w.heap.size g h hm fx fy cols rows N L rule p pn pc 0 M ∧ Below w.heap.size w W1) := by
    rw [← hW1]
    exact ⟨⟨((HF.out.alloc _).alloc _).alloc _, ((HM.out.alloc _).alloc _).alloc _, ((Blk.new _ _ _).alloc _).alloc _, (Blk.newAt _ _ _ (by simp)).alloc _, Blk.newAt _ _ _ (by simp)⟩, (((Below.refl _ _).alloc (Nat.le_refl _) _).alloc (by simp) _).alloc (by simp; omega) _⟩
  rw [hW1]
  clear hW1
  have HCUT := Lib.hid (cut_ints h N rc rc1 HSL.out.1 HSL.out.2.1 (by have := HSL.out; omega))
  refine wp_region_put (by kernel_rfl) (by kernel_rfl) (by kernel_rfl) (fun b' vs w' => (b' 0 = true → vs 0 = .pointer (some ⟨g, 0, none⟩)) ∧ (b' 1 = true → vs 1 = .pointer (some ⟨g, 0, none⟩)) ∧ (b' 2 = true → vs 2 = .pointer (some ⟨g, 4, none⟩)) ∧ (b' 3 = true → vs 3 = .slice (some ⟨h, 0, none⟩) N N) ∧ (b' 4 = true → vs 4 = .int .i64 (r : Int)) ∧ (b' 5 = true → vs 5 = .pointer (some ⟨g, 0, none⟩)) ∧ (b' 6 = true → vs 6 = .pointer (some ⟨g, 0, none⟩)) ∧ (b' 7 = true → vs 7 = .pointer (some ⟨g, 2, none⟩)) ∧ (b' 8 = true → vs 8 = .int .i64 (cols : Int)) ∧ (b' 9 = true → vs 9 = .int .i64 (rc : Int)) ∧ (b' 10 = true → vs 10 = .int .i64 (r : Int)) ∧ (b' 11 = true → vs 11 = .int .i64 ((r : Int) + 1)) ∧ (b' 12 = true → vs 12 = .pointer (some ⟨g, 0, none⟩)) ∧ (b' 13 = true → vs 13 = .pointer (some ⟨g, 0, none⟩)) ∧ (b' 14 = true → vs 14 = .pointer (some ⟨g, 2, none⟩)) ∧ (b' 15 = true → vs 15 = .int .i64 (cols : Int)) ∧ (b' 16 = true → vs 16 = .int .i64 (rc1 : Int)) ∧ (b' 17 = true → vs 17 = .slice (some ⟨h, rc, none⟩) (rc1 - rc) (N - rc)) ∧ (b' 18 = true → Hid (∃ q, (vs 18) = .func (.func 59) #[] #[.pointer (some ⟨q, 0, none⟩)] ∧ W1.heap.size ≤ q ∧ Blk w' q 64 #[.slice (some ⟨h, rc, none⟩) (rc1 - rc) (N - rc)])) ∧ (Hid (Below W1.heap.size W1 w' ∧ W1.heap.size ≤ w'.heap.size)) ∧ (Hid (LayS w' w.heap.size g h hm fx fy cols rows N L rule p pn pc 0 M))) ?_ ?_ ?_
  · intro vs
    exact ⟨fun h => Bool.noConfusion h, fun h => Bool.noConfusion h, fun h => Bool.noConfusion h, fun h => Bool.noConfusion h, fun h => Bool.noConfusion h, fun h => Bool.noConfusion h, fun h => Bool.noConfusion h, fun h => Bool.noConfusion h, fun h => Bool.noConfusion h, fun h => Bool.noConfusion h, fun h => Bool.noConfusion h, fun h => Bool.noConfusion h, fun h => Bool.noConfusion h, fun h => Bool.noConfusion h, fun h => Bool.noConfusion h, fun h => Bool.noConfusion h, fun h => Bool.noConfusion h, fun h => Bool.noConfusion h, fun h => Bool.noConfusion h, Lib.hid ⟨⟨rfl, rfl, rfl, Nat.le_refl _, fun _ _ => rfl⟩, Nat.le_refl _⟩, Lib.hid (S1.out.1.grow ⟨rfl, rfl, rfl, Nat.le_refl _, fun _ _ => rfl⟩)⟩
  · rintro b' vs w' i op hi hun hall ⟨h0, h1, h2, h3, h4, h5, h6, h7, h8, h9, h10, h11, h12, h13, h14, h15, h16, h17, y18, hB, hF⟩
    have hil : i < 19 := (List.getElem?_eq_some_iff.1 hi).1
    rcases i with _ | _ | _ | _ | _ | _ | _ | _ | _ | _ | _ | _ | _ | _ | _ | _ | _ | _ | _ | i
    · obtain rfl := Option.some.inj hi
      clear hi hil
      refine wpOp_step rfl (fun K hK => ?_)
      have HKK := Lib.hid hK; clear hK
      simp only [putAll, Act.put, List.setIfInBounds_toArray, List.set_cons_zero, List.set_cons_succ]
      go_simp
      exact HKK.out _ _ ⟨_, by simp only [putAll, Act.put, List.setIfInBounds_toArray, List.set_cons_zero, List.set_cons_succ] <;> rfl, fun _ => rfl, h1, h2, h3, h4, h5, h6, h7, h8, h9, h10, h11, h12, h13, h14, h15, h16, h17, y18, hB, hF⟩
    · obtain rfl := Option.some.inj hi
      clear hi hil
      have d0 := h0 (hall ⟨0, .data⟩ (by simp) rfl)
      refine wpOp_step rfl (fun K hK => ?_)
      have HKK := Lib.hid hK; clear hK
      simp only [putAll, Act.put, List.setIfInBounds_toArray, List.set_cons_zero, List.set_cons_succ]
      go_simp
      exact HKK.out _ _ ⟨_, by simp only [putAll, Act.put, List.setIfInBounds_toArray, List.set_cons_zero, List.set_cons_succ, d0] <;> rfl, h0, fun _ => rfl, h2, h3, h4, h5, h6, h7, h8, h9, h10, h11, h12, h13, h14, h15, h16, h17, y18, hB, hF⟩
    · obtain rfl := Option.some.inj hi
      clear hi hil
      have d1 := h1 (hall ⟨1, .data⟩ (by simp) rfl)
      refine wpOp_step rfl (fun K hK => ?_)
      have HKK := Lib.hid hK; clear hK
      simp only [putAll, Act.put, List.setIfInBounds_toArray, List.set_cons_zero, List.set_cons_succ]
      go_simp
      exact HKK.out _ _ ⟨_, by simp only [putAll, Act.put, List.setIfInBounds_toArray, List.set_cons_zero, List.set_cons_succ, d1] <;> rfl, h0, h1, fun _ => rfl, h3, h4, h5, h6, h7, h8, h9, h10, h11, h12, h13, h14, h15, h16, h17, y18, hB, hF⟩
    · obtain rfl := Option.some.inj hi
      clear hi hil
      have d2 := h2 (hall ⟨2, .data⟩ (by simp) rfl)
      have x0 := (hF).out.k.c4
      refine wpOp_step rfl (fun K hK => ?_)
      have HKK := Lib.hid hK; clear hK
      simp only [putAll, Act.put, List.setIfInBounds_toArray, List.set_cons_zero, List.set_cons_succ]
      go_simp
      exact HKK.out _ _ ⟨_, by simp only [putAll, Act.put, List.setIfInBounds_toArray, List.set_cons_zero, List.set_cons_succ, d2] <;> rfl, h0, h1, h2, fun _ => rfl, h4, h5, h6, h7, h8, h9, h10, h11, h12, h13, h14, h15, h16, h17, y18, hB, hF⟩
    · obtain rfl := Option.some.inj hi
      clear hi hil
      refine wpOp_step rfl (fun K hK => ?_)
      have HKK := Lib.hid hK; clear hK
      simp only [putAll, Act.put, List.setIfInBounds_toArray, List.set_cons_zero, List.set_cons_succ]
      go_simp
      exact HKK.out _ _ ⟨_, by simp only [putAll, Act.put, List.setIfInBounds_toArray, List.set_cons_zero, List.set_cons_succ] <;> rfl, h0, h1, h2, h3, fun _ => rfl, h5, h6, h7, h8, h9, h10, h11, h12, h13, h14, h15, h16, h17, y18, hB, hF⟩
    · obtain rfl := Option.some.inj hi
      clear hi hil
      refine wpOp_step rfl (fun K hK => ?_)
      have HKK := Lib.hid hK; clear hK
      simp only [putAll, Act.put, List.setIfInBounds_toArray, List.set_cons_zero, List.set_cons_succ]
      go_simp
      exact HKK.out _ _ ⟨_, by simp only [putAll, Act.put, List.setIfInBounds_toArray, List.set_cons_zero, List.set_cons_succ] <;> rfl, h0, h1, h2, h3, h4, fun _ => rfl, h6, h7, h8, h9, h10, h11, h12, h13, h14, h15, h16, h17, y18, hB, hF⟩
    · obtain rfl := Option.some.inj hi
      clear hi hil
      have d5 := h5 (hall ⟨5, .data⟩ (by simp) rfl)
      refine wpOp_step rfl (fun K hK => ?_)
      have HKK := Lib.hid hK; clear hK
      simp only [putAll, Act.put, List.setIfInBounds_toArray, List.set_cons_zero, List.set_cons_succ]
      go_simp
      exact HKK.out _ _ ⟨_, by simp only [putAll, Act.put, List.setIfInBounds_toArray, List.set_cons_zero, List.set_cons_succ, d5] <;> rfl, h0, h1, h2, h3, h4, h5, fun _ => rfl, h7, h8, h9, h10, h11, h12, h13, h14, h15, h16, h17, y18, hB, hF⟩
    · obtain rfl := Option.some.inj hi
      clear hi hil
      have d6 := h6 (hall ⟨6, .data⟩ (by simp) rfl)
      refine wpOp_step rfl (fun K hK => ?_)
      have HKK := Lib.hid hK; clear hK
      simp only [putAll, Act.put, List.setIfInBounds_toArray, List.set_cons_zero, List.set_cons_succ]
      go_simp
      exact HKK.out _ _ ⟨_, by simp only [putAll, Act.put, List.setIfInBounds_toArray, List.set_cons_zero, List.set_cons_succ, d6] <;> rfl, h0, h1, h2, h3, h4, h5, h6, fun _ => rfl, h8, h9, h10, h11, h12, h13, h14, h15, h16, h17, y18, hB, hF⟩
    · obtain rfl := Option.some.inj hi
      clear hi hil
      have d7 := h7 (hall ⟨7, .data⟩ (by simp) rfl)
      have x0 := (hF).out.k.c2
      refine wpOp_step rfl (fun K hK => ?_)
      have HKK := Lib.hid hK; clear hK
      simp only [putAll, Act.put, List.setIfInBounds_toArray, List.set_cons_zero, List.set_cons_succ]
      go_simp
      exact HKK.out _ _ ⟨_, by simp only [putAll, Act.put, List.setIfInBounds_toArray, List.set_cons_zero, List.set_cons_succ, d7] <;> rfl, h0, h1, h2, h3, h4, h5, h6, h7, fun _ => rfl, h9, h10, h11, h12, h13, h14, h15, h16, h17, y18, hB, hF⟩
    · obtain rfl := Option.some.inj hi
      clear hi hil
      have d4 := h4 (hall ⟨4, .data⟩ (by simp) rfl)
      have d8 := h8 (hall ⟨8, .data⟩ (by simp) rfl)
      have e1 := EW1.out
      refine wpOp_step rfl (fun K hK => ?_)
      have HKK := Lib.hid hK; clear hK
      simp only [putAll, Act.put, List.setIfInBounds_toArray, List.set_cons_zero, List.set_cons_succ]
      go_simp
      exact HKK.out _ _ ⟨_, by simp only [putAll, Act.put, List.setIfInBounds_toArray, List.set_cons_zero, List.set_cons_succ, d4, d8] <;> rfl, h0, h1, h2, h3, h4, h5, h6, h7, h8, fun _ => rfl, h10, h11, h12, h13, h14, h15, h16, h17, y18, hB, hF⟩
    · obtain rfl := Option.some.inj hi
      clear hi hil
      refine wpOp_step rfl (fun K hK => ?_)
      have HKK := Lib.hid hK; clear hK
      simp only [putAll, Act.put, List.setIfInBounds_toArray, List.set_cons_zero, List.set_cons_succ]
      go_simp
      exact HKK.out _ _ ⟨_, by simp only [putAll, Act.put, List.setIfInBounds_toArray, List.set_cons_zero, List.set_cons_succ] <;> rfl, h0, h1, h2, h3, h4, h5, h6, h7, h8, h9, fun _ => rfl, h11, h12, h13, h14, h15, h16, h17, y18, hB, hF⟩
    · obtain rfl := Option.some.inj hi
      clear hi hil
      have d10 := h10 (hall ⟨10, .data⟩ (by simp) rfl)
      have e1 := EW2.out
      refine wpOp_step rfl (fun K hK => ?_)
      have HKK := Lib.hid hK; clear hK
      simp only [putAll, Act.put, List.setIfInBounds_toArray, List.set_cons_zero, List.set_cons_succ]
      go_simp
      exact HKK.out _ _ ⟨_, by simp only [putAll, Act.put, List.setIfInBounds_toArray, List.set_cons_zero, List.set_cons_succ, d10] <;> rfl, h0, h1, h2, h3, h4, h5, h6, h7, h8, h9, h10, fun _ => rfl, h12, h13, h14, h15, h16, h17, y18, hB, hF⟩
    · obtain rfl := Option.some.inj hi
      clear hi hil
      refine wpOp_step rfl (fun K hK => ?_)
      have HKK := Lib.hid hK; clear hK
      simp only [putAll, Act.put, List.setIfInBounds_toArray, List.set_cons_zero, List.set_cons_succ]
      go_simp
      exact HKK.out _ _ ⟨_, by simp only [putAll, Act.put, List.setIfInBounds_toArray, List.set_cons_zero, List.set_cons_succ] <;> rfl, h0, h1, h2, h3, h4, h5, h6, h7, h8, h9, h10, h11, fun _ => rfl, h13, h14, h15, h16, h17, y18, hB, hF⟩
    · obtain rfl := Option.some.inj hi
      clear hi hil
      have d12 := h12 (hall ⟨12, .data⟩ (by simp) rfl)
      refine wpOp_step rfl (fun K hK => ?_)
      have HKK := Lib.hid hK; clear hK
      simp only [putAll, Act.put, List.setIfInBounds_toArray, List.set_cons_zero, List.set_cons_succ]
      go_simp
      exact HKK.out _ _ ⟨_, by simp only [putAll, Act.put, List.setIfInBounds_toArray, List.set_cons_zero, List.set_cons_succ, d12] <;> rfl, h0, h1, h2, h3, h4, h5, h6, h7, h8, h9, h10, h11, h12, fun _ => rfl, h14, h15, h16, h17, y18, hB, hF⟩
    · obtain rfl := Option.some.inj hi
      clear hi hil
      have d13 := h13 (hall ⟨13, .data⟩ (by simp) rfl)
      refine wpOp_step rfl (fun K hK => ?_)
      have HKK := Lib.hid hK; clear hK
      simp only [putAll, Act.put, List.setIfInBounds_toArray, List.set_cons_zero, List.set_cons_succ]
      go_simp
      exact HKK.out _ _ ⟨_, by simp only [putAll, Act.put, List.setIfInBounds_toArray, List.set_cons_zero, List.set_cons_succ, d13] <;> rfl, h0, h1, h2, h3, h4, h5, h6, h7, h8, h9, h10, h11, h12, h13, fun _ => rfl, h15, h16, h17, y18, hB, hF⟩
    · obtain rfl := Option.some.inj hi
      clear hi hil
      have d14 := h14 (hall ⟨14, .data⟩ (by simp) rfl)
      have x0 := (hF).out.k.c2
      refine wpOp_step rfl (fun K hK => ?_)
      have HKK := Lib.hid hK; clear hK
      simp only [putAll, Act.put, List.setIfInBounds_toArray, List.set_cons_zero, List.set_cons_succ]
      go_simp
      exact HKK.out _ _ ⟨_, by simp only [putAll, Act.put, List.setIfInBounds_toArray, List.set_cons_zero, List.set_cons_succ, d14] <;> rfl, h0, h1, h2, h3, h4, h5, h6, h7, h8, h9, h10, h11, h12, h13, h14, fun _ => rfl, h16, h17, y18, hB, hF⟩
    · obtain rfl := Option.some.inj hi
      clear hi hil
      have d11 := h11 (hall ⟨11, .data⟩ (by simp) rfl)
      have d15 := h15 (hall ⟨15, .data⟩ (by simp) rfl)
      have e1 := EW3.out
      refine wpOp_step rfl (fun K hK => ?_)
      have HKK := Lib.hid hK; clear hK
      simp only [putAll, Act.put, List.setIfInBounds_toArray, List.set_cons_zero, List.set_cons_succ]
      go_simp
      exact HKK.out _ _ ⟨_, by simp only [putAll, Act.put, List.setIfInBounds_toArray, List.set_cons_zero, List.set_cons_succ, d11, d15] <;> rfl, h0, h1, h2, h3, h4, h5, h6, h7, h8, h9, h10, h11, h12, h13, h14, h15, fun _ => rfl, h17, y18, hB, hF⟩
    · obtain rfl := Option.some.inj hi
      clear hi hil
      have d3 := h3 (hall ⟨3, .data⟩ (by simp) rfl)
      have d9 := h9 (hall ⟨9, .data⟩ (by simp) rfl)
      have d16 := h16 (hall ⟨16, .data⟩ (by simp) rfl)
      have e1 := HCUT.out w'
      refine wpOp_step rfl (fun K hK => ?_)
      have HKK := Lib.hid hK; clear hK
      simp only [putAll, Act.put, List.setIfInBounds_toArray, List.set_cons_zero, List.set_cons_succ]
      go_simp
      exact HKK.out _ _ ⟨_, by simp only [putAll, Act.put, List.setIfInBounds_toArray, List.set_cons_zero, List.set_cons_succ, d3, d9, d16] <;> rfl, h0, h1, h2, h3, h4, h5, h6, h7, h8, h9, h10, h11, h12, h13, h14, h15, h16, fun _ => rfl, y18, hB, hF⟩
    · obtain rfl := Option.some.inj hi
      clear hi hil
      have d17 := h17 (hall ⟨17, .data⟩ (by simp) rfl)
      refine wpOp_step rfl (fun K hK => ?_)
      have HKK := Lib.hid hK; clear hK
      simp only [putAll, Act.put, List.setIfInBounds_toArray, List.set_cons_zero, List.set_cons_succ]
      go_simp
      refine (backward_c (some ⟨h, rc, none⟩) (rc1 - rc) (N - rc) w').mono ?_
      rintro e w2 ⟨q, rfl, hq, hk2, hb2⟩
      exact HKK.out _ _ ⟨_, by simp only [putAll, Act.put, List.setIfInBounds_toArray, List.set_cons_zero, List.set_cons_succ, d17] <;> rfl, h0, h1, h2, h3, h4, h5, h6, h7, h8, h9, h10, h11, h12, h13, h14, h15, h16, h17, fun _ => Lib.hid (⟨q, rfl, Nat.le_trans hB.out.2 hq, hk2⟩), Lib.hid ⟨(hB).out.1.trans (hb2.mono (hB).out.2), Nat.le_trans (hB).out.2 hb2.size⟩, Lib.hid ((hF).out.grow hb2)⟩
    · omega
  · rintro b' vs w2 hall ⟨h0, h1, h2, h3, h4, h5, h6, h7, h8, h9, h10, h11, h12, h13, h14, h15, h16, h17, y18, hB, hF⟩
    have d0 := h0 (hall 0 (by simp))
    have d1 := h1 (hall 1 (by simp))
    have d2 := h2 (hall 2 (by simp))
    have d3 := h3 (hall 3 (by simp))
    have d4 := h4 (hall 4 (by simp))
    have d5 := h5 (hall 5 (by simp))
    have d6 := h6 (hall 6 (by simp))
    have d7 := h7 (hall 7 (by simp))
    have d8 := h8 (hall 8 (by simp))
    have d9 := h9 (hall 9 (by simp))
    have d10 := h10 (hall 10 (by simp))
    have d11 := h11 (hall 11 (by simp))
    have d12 := h12 (hall 12 (by simp))
    have d13 := h13 (hall 13 (by simp))
    have d14 := h14 (hall 14 (by simp))
    have d15 := h15 (hall 15 (by simp))
    have d16 := h16 (hall 16 (by simp))
    have d17 := h17 (hall 17 (by simp))
    have o18 := y18 (hall 18 (by simp))
    have BB := hB
    have FF := hF
    simp only [putAll, Act.put, List.setIfInBounds_toArray, List.set_cons_zero, List.set_cons_succ, d0, d1, d2, d3, d4, d5, d6, d7, d8, d9, d10, d11, d12, d13, d14, d15, d16, d17]
    clear hall h0 d0 h1 d1 h2 d2 h3 d3 h4 d4 h5 d5 h6 d6 h7 d7 h8 d8 h9 d9 h10 d10 h11 d11 h12 d12 h13 d13 h14 d14 h15 d15 h16 d16 h17 d17 y18 hB hF
    obtain ⟨q, hq1, hq2, hq3⟩ := o18.out
    rw [hq1]
    have HB := Lib.hid BB.out
    have HFF := Lib.hid FF.out
    have HQ := Lib.hid (And.intro hq2 hq3)
    clear hq1 hq2 hq3 o18 BB FF
    go_wp2_with fail
    have hgl : g < w.heap.size := HF.out.f.lt
    have hhl : h < w.heap.size := HF.out.r.lt
    have hml : hm < w.heap.size := HM.out.lt
    have hW1 : w.heap.size + 3 ≤ W1.heap.size := S1.out.1.t.lt
    have hw2s : W1.heap.size ≤ w2.heap.size := HB.out.1.size
    have hql : q < w2.heap.size := HQ.out.2.lt
    have HLT := Lib.hid (And.intro hgl (And.intro hhl (And.intro hml (And.intro hW1 (And.intro hw2s hql)))))
    have hx2 : ∀ k x, ((L.drop rc).take cols)[k]? = some x → k < cols ∧ L[r * cols + k]? = some x := fun k x hx => by
      rw [List.getElem?_take] at hx
      split at hx
      · rw [List.getElem?_drop, ← HRC.out] at hx
        exact ⟨by assumption, hx⟩
      · cases hx
    refine wp_back (xs := (L.drop rc).take cols) (h := h) (o := rc) (n := rc1 - rc) (c := N - rc) rfl rfl hql (by omega) (HQ.out.2.cell 0) (fun k x hx => ?row) ?len (by have := HSL.out; have := HC.out; omega)
      (fun k A => LayS A w.heap.size g h hm fx fy cols rows N L rule p pn pc (suf L cols r k) (maskD ins NM W ox oy rows cols r k) ∧ Keep (fun j => j < w.heap.size ∧ j ≠ hm) w A)
      (fun k A B hi hk => ⟨hi.1.keep hk (by omega) (by omega) (by omega) (by omega) (by omega) (by omega), hi.2.trans (hk.mono fun j hj => by omega)⟩)
      ?start
      (fun k x => #[.pointer (some ⟨g, 0, none⟩), .int .i64 (r : Int), .int .i64 rule, .slice (some ⟨hm, p, none⟩) pn pc, undef, undef, .pointer (some ⟨w.heap.size, 0, none⟩), .pointer (some ⟨w.heap.size + 1, 0, none⟩), .pointer (some ⟨w.heap.size + 1 + 1, 0, none⟩), .int .i64 (k : Int), .int .i64 x, .pointer (some ⟨g, 0, none⟩), .pointer (some ⟨g, 0, none⟩), .pointer (some ⟨g, 4, none⟩), .slice (some ⟨h, 0, none⟩) N N, .int .i64 (r : Int), .pointer (some ⟨g, 0, none⟩), .pointer (some ⟨g, 0, none⟩), .pointer (some ⟨g, 2, none⟩), .int .i64 (cols : Int), .int .i64 (rc : Int), .int .i64 (r : Int), .int .i64 ((r : Int) + 1), .pointer (some ⟨g, 0, none⟩), .pointer (some ⟨g, 0, none⟩), .pointer (some ⟨g, 2, none⟩), .int .i64 (cols : Int), .int .i64 (rc1 : Int), .slice (some ⟨h, rc, none⟩) (rc1 - rc) (N - rc), .func (.func 59) #[] #[.pointer (some ⟨q, 0, none⟩)], .int .i64 (k : Int), .int .i64 x, undef, undef, undef, undef, undef, undef, undef, undef, undef, undef, undef, undef, undef])
      ?assign ?body ?done
    case row =>
      have h2 := (hx2 k x hx).2
      rw [HRC.out] at h2
      exact HFF.out.k.r.int h2
    case len =>
      have := HSL.out
      have := HFF.out.k.len
      rw [List.length_take, List.length_drop]
      omega
    case start =>
      have e : rc1 - rc = cols := by have := HSL.out; omega
      rw [e, suf_end]
      refine ⟨HME.out ▸ HFF.out, (Keep.of_below (S1.out.2.trans (HB.out.1.mono (by omega)))).mono fun j hj => trivial⟩
    case assign =>
      intro L' k x A K hK
      gi_wp2
      exact hK
    case body =>
      rintro L' k x B hx ⟨hS, hK⟩ hsz
      obtain ⟨hkc, hLk⟩ := hx2 k x hx
      have hsc := suf_cons L cols r k x hkc hLk
      have hb0 := suf_bound HL.out cols r (k + 1) HEE.out HC.out
      have hxb := HL.out x (List.mem_of_getElem? hLk)
      have hE2 := HEE.out
      obtain ⟨S0, hS0⟩ : ∃ s, suf L cols r (k + 1) = s := ⟨_, rfl⟩
      rw [hS0] at hS hsc hb0
      have hin : inI rule (S0 + x) = ins r k := by rw [← hsc]; exact HINS.out k hkc
      have HII : Hid (∀ W, Calls Try.prog 35 #[.int .i64 (S0 + x), .int .i64 rule] W fun e w' => e = .returned (.bool (ins r k)) ∧ W = w') := fun W => by
        have := isInside_c (S0 + x) rule W
        rwa [hin] at this
      have t0 : B.cell? ⟨w.heap.size + 1 + 1, 0, none⟩ = some (.int .i64 S0) := hS.t.cell 0
      have t1 := hS.t.free 0
      have a0 : B.cell? ⟨w.heap.size, 0, none⟩ = some (.int .i64 rule) := hS.a.cell 0
      have s0 : B.cell? ⟨w.heap.size + 1, 0, none⟩ = some (.slice (some ⟨hm, p, none⟩) pn pc) := hS.s.cell 0
      have tl := hS.t.lt
      obtain ⟨hb0a, hb0b⟩ := hb0
      obtain ⟨hxa, hxb⟩ := hxb
      have hks : w.heap.size + 1 + 1 < B.heap.size := tl
      have HS := Lib.hid hS; have HK := Lib.hid hK; have HKC := Lib.hid hkc; have HSC := Lib.hid hsc; have HSZ := Lib.hid hsz
      have hpos := HWW.out k hkc
      have hpos2 := HPN.out k hkc
      have hpos3 := HNM.out k hkc
      have hPe := HP.out
      have hidx : (oy + r / 4) * W + (ox + k / 4) = p + k / 4 := by omega
      have HPOS := Lib.hid (And.intro hpos (And.intro hpos3 hidx))
      obtain ⟨y, hy⟩ : ∃ y, cellD ins W ox oy rows cols r (k + 1) (p + k / 4) = y := ⟨_, rfl⟩
      have hyM : (maskD ins NM W ox oy rows cols r (k + 1))[p + k / 4]? = some y := by
        unfold maskD
        rw [List.getElem?_map, List.getElem?_range hpos3, ← hy]
        rfl
      have hy16 : y ≤ 16 := by rw [← hy]; exact cellD_le _ _ _ _ _ _ _ _ _
      have m0 := hS.m.byte hyM
      have m1 := hS.m.free (p + k / 4)
      have ml := hS.m.lt
      have HY := Lib.hid hy; have HYM := Lib.hid hyM
      have hne3 : hm ≠ w.heap.size + 1 + 1 := by omega
      clear hS hK hkc hsc hx hLk hin hS0 hpos hpos3 hPe hidx hyM hy hsz hx2
      obtain ⟨z, hz⟩ : ∃ z, ins r k = z := ⟨_, rfl⟩
      rw [hz] at HII
      have HZ := Lib.hid hz
      clear hz
      have hk1 : k ≤ 1024 := by have := HKC.out; have := HC.out; omega
      have hyw : IntKind.u8.wrap ((y : Int) + 1) = (y : Int) + 1 := by rw [IntKind.wrap_u8]; omega
      gi_wp2
      obtain ⟨B1, hB1⟩ : ∃ X, B.setCell ⟨w.heap.size + 1 + 1, 0, none⟩ (.int .i64 (S0 + x)) = X := ⟨_, rfl⟩
      have k1 : Keep (fun j => j ≠ w.heap.size + 1 + 1) B B1 := by rw [← hB1]; exact Keep.setCell _ _ _ (by simp)
      have S1' : Hid (LayS B1 w.heap.size g h hm fx fy cols rows N L rule p pn pc (S0 + x) (maskD ins NM W ox oy rows cols r (k + 1)) ∧ Keep (fun j => j ≠ w.heap.size + 1 + 1) B B1) := by
        refine ⟨?_, k1⟩
        rw [← hB1]
        exact HS.out.setT (S0 + x) hgl hhl hml
      rw [hB1]
      clear hB1 k1 t0 t1 a0 s0 tl m0 m1 ml
      refine ⟨trivial, (CallsIn.inRound L' (callsIn_wide.2 (HII.out _))).mono ?_⟩
      rintro e B2 ⟨rfl, rfl⟩
      have s0 : B1.cell? ⟨w.heap.size + 1, 0, none⟩ = some (.slice (some ⟨hm, p, none⟩) pn pc) := S1'.out.1.s.cell 0
      have m0 := S1'.out.1.m.byte HYM.out
      have m1 := S1'.out.1.m.free (p + k / 4)
      have ml := S1'.out.1.m.lt
      cases z
      · gi_wp2
        refine ⟨⟨?_, HK.out.trans (S1'.out.2.mono fun j hj => by omega)⟩, S1'.out.2.mono fun j hj => ?_⟩
        · rw [HSC.out, maskD_no ins NM W ox oy rows cols r k HZ.out]
          exact S1'.out.1
        · have := HLT.out; have := HSZ.out; have := HQ.out.1; omega
      · gi_wp2
        refine ⟨⟨?_, HK.out.trans ((S1'.out.2.mono fun j hj => by omega).trans (Keep.setCell _ _ _ (by simp)))⟩, (S1'.out.2.mono fun j hj => ?_).trans (Keep.setCell _ _ _ ?_)⟩
        · rw [HSC.out, maskD_yes ins NM W ox oy rows cols r k HPOS.out.1 HR.out HKC.out HZ.out (by rw [HPOS.out.2.2]; exact HPOS.out.2.1), HPOS.out.2.2, HY.out]
          exact S1'.out.1.setM (p + k / 4) (y + 1) HNE2.out HNE.out hml
        · have := HLT.out; have := HSZ.out; have := HQ.out.1; omega
        · have := HLT.out; have := HNE.out; have := HQ.out.1
          rintro (h1 | h1 | h1 | h1) <;> simp only at h1 <;> omega
    case done =>
      rintro D ⟨hS, hK⟩ hD
      dsimp only
      go_wp2_with fail
      have hne4 : hm ≠ w2.heap.size := by omega
      refine postM_ret (.tuple #[]) hD (by simp [results, Try.f33, go_sem]) ⟨rfl, ?_, ?_⟩
      · have h1 := hS.m.putOther (l := w2.heap.size) (.deferred none) hne4
        rwa [maskD_row] at h1
      · have h2 := hK.trans (Keep.putObj (fun j => j < w.heap.size ∧ j ≠ hm) D w2.heap.size (.deferred none) (by omega))
        exact ⟨h2.os, h2.tape, h2.output, h2.size, fun j hj hl => h2.block j ⟨hl, hj⟩ hl⟩
end Go.Proofs.Ytopngjpgikpmaaa
