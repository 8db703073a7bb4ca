/- The law of P2.1 on sums, as a contract: it returns true, for every input. -/
import Derived.Test.YtgkgdkdendmfnaaN
namespace Go.Proofs.Ytgkgdkdendmfnaa
open Go.RowKit
theorem At.lt {w : World} {g : Nat} {cs : Array Value} (h : At w g cs) : g < w.heap.size := by
  rcases Nat.lt_or_ge g w.heap.size with hl | hl
  · exact hl
  · unfold At at h; rw [Array.getElem?_eq_none hl] at h; cases h
theorem setRow_size (w : World) (g : Nat) (rs : Array Value) : w.heap.size ≤ (w.setRow g rs).heap.size := by unfold World.setRow; simp
theorem below_size {a w : World} (h : Below a.heap.size a w) : a.heap.size ≤ w.heap.size := h.size
/-- A struct of two cells. -/
theorem run_num (o : Oper) (a : Act) (x : Operand) (g : Nat) (u : BitVec 128) (w : World) (ho : o.op = .load 24 x) (hx : a.eval x = .pointer (some ⟨g, 0, none⟩)) (hc : w.heap[g]? = some (.cells #[.int .i64 (hiOf u), .int .u64 (loOf u)] 24)) :
    (execOp a.eval o).run Try.prog w = .ok (.value (.agg #[.int .i64 (hiOf (u)), .int .u64 (loOf (u))])) w := by
  have c1 : w.cell? ⟨g, 0, none⟩ = some (.int .i64 (hiOf u)) := by rw [Joins.cell_of_block hc 0]; rfl
  have c2 : w.cell? ⟨g, 1, none⟩ = some (.int .u64 (loOf u)) := by rw [Joins.cell_of_block hc 1]; rfl
  unfold execOp
  simp only [ho, hx]
  go_simp
/-- The frame in the first region. -/
def frS (u v : BitVec 128) (n : Nat) (t5 t6 v7 v8 v9 v10 : Value) : Act := { tmps := #[(.agg #[.int .i64 (hiOf (u)), .int .u64 (loOf (u))]), (.agg #[.int .i64 (hiOf (v)), .int .u64 (loOf (v))]), .pointer (some ⟨n, 0, none⟩), .pointer (some ⟨n + 1, 0, none⟩), .bool false, t5, t6, v7, v8, v9, v10, undef, undef, undef, undef, undef, undef, undef, undef, undef, undef, undef, undef, undef, undef, undef, undef, undef, undef, undef, undef, undef, undef, undef, undef, undef, undef, undef, undef, undef], defers := [] }
/-- What holds whichever operations have come up: u's bits and v's, on their way into two new rows. -/
def invS (u v : BitVec 128) (ru rv : Array Value) (n : Nat) (w1 : World) (L : Array Bool) (a : Act) (W : World) : Prop :=
  ∃ b0 b1 b2 b3 b4 b5 b6 b7 : Bool, ∃ (t5 t6 v7 v8 v9 v10 : Value) (g5 g6 : Nat), L = #[b0, b1, b2, b3, b4, b5, b6, b7] ∧ a = frS u v n t5 t6 v7 v8 v9 v10 ∧
    (b0 = true → v7 = (.agg #[.int .i64 (hiOf (u)), .int .u64 (loOf (u))])) ∧ (b1 = true → v8 = .agg ru) ∧ (b2 = true → v9 = (.agg #[.int .i64 (hiOf (v)), .int .u64 (loOf (v))])) ∧ (b3 = true → v10 = .agg rv) ∧
    (b4 = true → t5 = .pointer (some ⟨g5, 0, none⟩) ∧ n + 2 ≤ g5 ∧ At W g5 (cond b6 ru zeros)) ∧
    (b5 = true → t6 = .pointer (some ⟨g6, 0, none⟩) ∧ n + 2 ≤ g6 ∧ At W g6 (cond b7 rv zeros)) ∧
    (b4 = true → b5 = true → g5 ≠ g6) ∧ (b6 = true → b4 = true) ∧ (b7 = true → b5 = true) ∧ Below w1.heap.size w1 W
theorem below_out {a b : World} {B : Nat} (h : Below B a b) (g : Nat) (rs : Array Value) (hg : B ≤ g) : Below B a (b.setRow g rs) := below_setRow h hg _
set_option maxHeartbeats 1000000 in
set_option maxRecDepth 100000 in
theorem sums_law (K : WideOk) (u v : BitVec 128) (w : World) :
    Calls Try.prog 3 #[(.agg #[.int .i64 (hiOf (u)), .int .u64 (loOf (u))]), (.agg #[.int .i64 (hiOf (v)), .int .u64 (loOf (v))])] w fun e w' => e = .returned (.bool true) ∧ Below w.heap.size w w' := by
  have hz := zeroRow
  have HBu := Lib.hid (bitsW u)
  have HBv := Lib.hid (bitsW v)
  have HA := Lib.hid (K.add_w u v)
  have HD := Lib.hid (K.sub_w u v)
  have HN := Lib.hid (K.neg_w u)
  have HA' := Lib.hid (addW u v)
  have HD' := Lib.hid (subW u v)
  have HN' := Lib.hid (negW u)
  have HB1 := Lib.hid (bitsW (u + v))
  have HB2 := Lib.hid (bitsW (u - v))
  have HB3 := Lib.hid (bitsW (-u))
  have E1 := equal_row (u + v) (u + v)
  have E2 := equal_row (u - v) (u - v)
  have E3 := equal_row (-u) (-u)
  simp only [decide_true] at E1 E2 E3
  have K' := K
  generalize row (u + v) = r1 at *
  generalize row (u - v) = r2 at *
  generalize row (-u) = r3 at *
  have HS : Hid ((row u).size = 128 ∧ (row u).all (·.oneCell') = true ∧ (row v).size = 128 ∧ (row v).all (·.oneCell') = true) := ⟨row_size _, row_one _, row_size _, row_one _⟩
  generalize row u = ru at *
  generalize row v = rv at *
  go_enter Try.func3, Try.ntmps3
  go_wp2_with fail
  obtain ⟨w1, hw1⟩ : ∃ w1, (w.alloc (.cells #[.int .i64 (hiOf u), .int .u64 (loOf u)] 24)).alloc (.cells #[.int .i64 (hiOf v), .int .u64 (loOf v)] 24) = w1 := ⟨_, rfl⟩
  have hx : w1.heap[w.heap.size]? = some (.cells #[.int .i64 (hiOf u), .int .u64 (loOf u)] 24) := by rw [← hw1]; exact heap_alloc2_old _ _ _
  have hy : w1.heap[w.heap.size + 1]? = some (.cells #[.int .i64 (hiOf v), .int .u64 (loOf v)] 24) := by rw [← hw1]; exact heap_alloc2_new _ _ _
  have hB : Below w.heap.size w w1 := by rw [← hw1]; exact ((Below.refl _ _).alloc (Nat.le_refl _) _).alloc (by simp) _
  have hs : w1.heap.size = w.heap.size + 2 := by rw [← hw1]; simp
  rw [hw1]
  clear hw1
  generalize hn : w.heap.size = n at *
  refine wp_region_inv (by kernel_rfl) (invS u v ru rv n w1) ?_ ?_ ?_
  · exact ⟨false, false, false, false, false, false, false, false, undef, undef, undef, undef, undef, undef, 0, 0, rfl, rfl, by simp, by simp, by simp, by simp, by simp, by simp, by simp, by simp, by simp, ⟨rfl, rfl, rfl, Nat.le_refl _, fun _ _ => rfl⟩⟩
  · rintro L a W i ⟨b0, b1, b2, b3, b4, b5, b6, b7, t5, t6, v7, v8, v9, v10, g5, g6, rfl, rfl, h0, h1, h2, h3, h4, h5, h56, h64, h75, hb⟩ hi
    obtain ⟨hun, o, ho, hall⟩ := mem_ready.1 hi
    have hlt : i < 8 := (Array.getElem?_eq_some_iff.1 ho).1
    have hWs : n + 2 ≤ W.heap.size := hs ▸ hb.size
    have kx : W.heap[n]? = some (.cells #[.int .i64 (hiOf u), .int .u64 (loOf u)] 24) := by rw [hb.block n (by omega)]; exact hx
    have ky : W.heap[n + 1]? = some (.cells #[.int .i64 (hiOf v), .int .u64 (loOf v)] 24) := by rw [hb.block (n + 1) (by omega)]; exact hy
    have c1 : W.cell? ⟨n, 0, none⟩ = some (.int .i64 (hiOf u)) := by rw [Joins.cell_of_block kx 0]; rfl
    have c2 : W.cell? ⟨n, 1, none⟩ = some (.int .u64 (loOf u)) := by rw [Joins.cell_of_block kx 1]; rfl
    have c3 : W.cell? ⟨n + 1, 0, none⟩ = some (.int .i64 (hiOf v)) := by rw [Joins.cell_of_block ky 0]; rfl
    have c4 : W.cell? ⟨n + 1, 1, none⟩ = some (.int .u64 (loOf v)) := by rw [Joins.cell_of_block ky 1]; rfl
    have H4 := Lib.hid h4; have H5 := Lib.hid h5; have H6 := Lib.hid h56
    clear h4 h5 h56 hx hy kx ky hB
    have on5 : ∀ W1 c, Below W.heap.size W W1 → (b4 = true → t5 = .pointer (some ⟨g5, 0, none⟩) ∧ n + 2 ≤ g5 ∧ At W g5 c) → (b4 = true → t5 = .pointer (some ⟨g5, 0, none⟩) ∧ n + 2 ≤ g5 ∧ At W1 g5 c) := fun W1 c hW h hb => ⟨(h hb).1, (h hb).2.1, At.on (h hb).2.2 hW (h hb).2.2.lt⟩
    have on6 : ∀ W1 c, Below W.heap.size W W1 → (b5 = true → t6 = .pointer (some ⟨g6, 0, none⟩) ∧ n + 2 ≤ g6 ∧ At W g6 c) → (b5 = true → t6 = .pointer (some ⟨g6, 0, none⟩) ∧ n + 2 ≤ g6 ∧ At W1 g6 c) := fun W1 c hW h hb => ⟨(h hb).1, (h hb).2.1, At.on (h hb).2.2 hW (h hb).2.2.lt⟩
    have O5 := Lib.hid on5; have O6 := Lib.hid on6
    clear on5 on6
    rcases i with _ | _ | _ | _ | _ | _ | _ | _ | i
    · refine wpOp_step rfl (fun K hK => ?_)
      have HK := Lib.hid hK; clear hK
      unfold frS
      go_simp
      exact HK.out _ _ ⟨true, b1, b2, b3, b4, b5, b6, b7, t5, t6, _, v8, v9, v10, g5, g6, rfl, rfl, fun _ => rfl, h1, h2, h3, H4.out, H5.out, H6.out, h64, h75, hb⟩
    · have d0 : b0 = true := hall ⟨0, .data⟩ (by obtain rfl := Option.some.inj ho; simp) rfl
      obtain rfl := h0 d0
      refine wpOp_step rfl (fun K hK => ?_)
      have HK := Lib.hid hK; clear hK
      unfold frS
      go_simp
      refine (HBu.out _).mono ?_
      rintro e W1 ⟨rfl, hb1⟩
      exact HK.out _ _ ⟨b0, true, b2, b3, b4, b5, b6, b7, t5, t6, _, _, v9, v10, g5, g6, rfl, rfl, h0, fun _ => rfl, h2, h3, O5.out _ _ hb1 H4.out, O6.out _ _ hb1 H5.out, H6.out, h64, h75, below_next hb hb1⟩
    · refine wpOp_step rfl (fun K hK => ?_)
      have HK := Lib.hid hK; clear hK
      unfold frS
      go_simp
      exact HK.out _ _ ⟨b0, b1, true, b3, b4, b5, b6, b7, t5, t6, v7, v8, _, v10, g5, g6, rfl, rfl, h0, h1, fun _ => rfl, h3, H4.out, H5.out, H6.out, h64, h75, hb⟩
    · have d2 : b2 = true := hall ⟨2, .data⟩ (by obtain rfl := Option.some.inj ho; simp) rfl
      obtain rfl := h2 d2
      refine wpOp_step rfl (fun K hK => ?_)
      have HK := Lib.hid hK; clear hK
      unfold frS
      go_simp
      refine (HBv.out _).mono ?_
      rintro e W1 ⟨rfl, hb1⟩
      exact HK.out _ _ ⟨b0, b1, b2, true, b4, b5, b6, b7, t5, t6, v7, v8, _, _, g5, g6, rfl, rfl, h0, h1, h2, fun _ => rfl, O5.out _ _ hb1 H4.out, O6.out _ _ hb1 H5.out, H6.out, h64, h75, below_next hb hb1⟩
    · have n4 : b4 = false := hun
      have n6 : b6 = false := by cases b6; rfl; rw [h64 rfl] at n4; cases n4
      refine wpOp_step rfl (fun K hK => ?_)
      have HK := Lib.hid hK; clear hK
      unfold frS
      go_simp
      have hb1 : Below W.heap.size W (W.alloc (.cells zeros 25)) := (Below.refl _ _).alloc (Nat.le_refl _) _
      exact HK.out _ _ ⟨b0, b1, b2, b3, true, b5, b6, b7, _, t6, v7, v8, v9, v10, W.heap.size, g6, rfl, rfl, h0, h1, h2, h3, fun _ => ⟨rfl, hWs, by rw [n6]; exact heap_alloc_last _ _⟩, O6.out _ _ hb1 H5.out, fun _ h e => by have := (H5.out h).2.2.lt; omega, fun _ => rfl, h75, below_next hb hb1⟩
    · have n5 : b5 = false := hun
      have n7 : b7 = false := by cases b7; rfl; rw [h75 rfl] at n5; cases n5
      refine wpOp_step rfl (fun K hK => ?_)
      have HK := Lib.hid hK; clear hK
      unfold frS
      go_simp
      have hb1 : Below W.heap.size W (W.alloc (.cells zeros 25)) := (Below.refl _ _).alloc (Nat.le_refl _) _
      exact HK.out _ _ ⟨b0, b1, b2, b3, b4, true, b6, b7, t5, _, v7, v8, v9, v10, g5, W.heap.size, rfl, rfl, h0, h1, h2, h3, O5.out _ _ hb1 H4.out, fun _ => ⟨rfl, hWs, by rw [n7]; exact heap_alloc_last _ _⟩, fun h _ e => by have := (H4.out h).2.2.lt; omega, h64, fun _ => rfl, below_next hb hb1⟩
    · have d4 : b4 = true := hall ⟨4, .data⟩ (by obtain rfl := Option.some.inj ho; simp) rfl
      have d1 : b1 = true := hall ⟨1, .data⟩ (by obtain rfl := Option.some.inj ho; simp) rfl
      have d5 : b5 = true := hall ⟨5, .phase⟩ (by obtain rfl := Option.some.inj ho; simp) rfl
      have n6 : b6 = false := hun
      obtain rfl := h1 d1
      obtain ⟨rfl, m1, m2⟩ := H4.out d4
      rw [n6] at m2
      replace m2 : At W g5 zeros := m2
      refine wpOp_step rfl (fun K hK => ?_)
      have HK := Lib.hid hK; clear hK
      simp only [List.getElem_toArray, List.getElem_cons_succ, List.getElem_cons_zero]
      unfold frS
      refine (if_pos rfl).mpr (wp_store_row 25 _ _ rfl g5 ru rfl rfl 25 zeros m2 (by rw [HS.out.1]; exact sizeRow) (by rw [HS.out.1, zeros_size]) HS.out.2.1 ?_)
      exact HK.out _ _ ⟨b0, b1, b2, b3, b4, b5, true, b7, _, t6, v7, _, v9, v10, g5, g6, rfl, rfl, h0, fun _ => rfl, h2, h3, fun _ => ⟨rfl, m1, setRow_heap _ _ _ _ _ _ m2⟩, fun h => ⟨(H5.out h).1, (H5.out h).2.1, (H5.out h).2.2.row _ (fun e => H6.out d4 h e)⟩, H6.out, fun _ => d4, h75, below_setRow hb (by omega) _⟩
    · have d5 : b5 = true := hall ⟨5, .data⟩ (by obtain rfl := Option.some.inj ho; simp) rfl
      have d3 : b3 = true := hall ⟨3, .data⟩ (by obtain rfl := Option.some.inj ho; simp) rfl
      have n7 : b7 = false := hun
      obtain rfl := h3 d3
      obtain ⟨rfl, m1, m2⟩ := H5.out d5
      rw [n7] at m2
      replace m2 : At W g6 zeros := m2
      refine wpOp_step rfl (fun K hK => ?_)
      have HK := Lib.hid hK; clear hK
      simp only [List.getElem_toArray, List.getElem_cons_succ, List.getElem_cons_zero]
      unfold frS
      refine (if_pos rfl).mpr (wp_store_row 25 _ _ rfl g6 rv rfl rfl 25 zeros m2 (by rw [HS.out.2.2.1]; exact sizeRow) (by rw [HS.out.2.2.1, zeros_size]) HS.out.2.2.2 ?_)
      exact HK.out _ _ ⟨b0, b1, b2, b3, b4, b5, b6, true, t5, _, v7, v8, v9, _, g5, g6, rfl, rfl, h0, h1, h2, fun _ => rfl, fun h => ⟨(H4.out h).1, (H4.out h).2.1, (H4.out h).2.2.row _ (fun e => H6.out h d5 e.symm)⟩, fun _ => ⟨rfl, m1, setRow_heap _ _ _ _ _ _ m2⟩, H6.out, h64, fun _ => d5, below_setRow hb (by omega) _⟩
    · omega
  · rintro L a W ⟨b0, b1, b2, b3, b4, b5, b6, b7, t5, t6, v7, v8, v9, v10, g5, g6, rfl, rfl, h0, h1, h2, h3, h4, h5, h56, h64, h75, hb⟩ hr
    have ne : ∀ i, i ∈ Region.ready .any _ _ → False := fun i hi => by rw [hr] at hi; cases hi
    cases b0
    · exact (ne 0 (mem_ready.2 ⟨rfl, _, rfl, by simp⟩)).elim
    cases b1
    · exact (ne 1 (mem_ready.2 ⟨rfl, _, rfl, by simp⟩)).elim
    cases b2
    · exact (ne 2 (mem_ready.2 ⟨rfl, _, rfl, by simp⟩)).elim
    cases b3
    · exact (ne 3 (mem_ready.2 ⟨rfl, _, rfl, by simp⟩)).elim
    cases b4
    · exact (ne 4 (mem_ready.2 ⟨rfl, _, rfl, by simp⟩)).elim
    cases b5
    · exact (ne 5 (mem_ready.2 ⟨rfl, _, rfl, by simp⟩)).elim
    cases b6
    · exact (ne 6 (mem_ready.2 ⟨rfl, _, rfl, by simp⟩)).elim
    cases b7
    · exact (ne 7 (mem_ready.2 ⟨rfl, _, rfl, by simp⟩)).elim
    obtain rfl := h0 rfl
    obtain rfl := h1 rfl
    obtain rfl := h2 rfl
    obtain rfl := h3 rfl
    obtain ⟨rfl, q5, m5⟩ := h4 rfl
    obtain ⟨rfl, q6, m6⟩ := h5 rfl
    replace m5 : At W g5 ru := m5
    replace m6 : At W g6 rv := m6
    have hWs : n + 2 ≤ W.heap.size := hs ▸ hb.size
    have kx : W.heap[n]? = some (.cells #[.int .i64 (hiOf u), .int .u64 (loOf u)] 24) := by rw [hb.block n (by omega)]; exact hx
    have ky : W.heap[n + 1]? = some (.cells #[.int .i64 (hiOf v), .int .u64 (loOf v)] 24) := by rw [hb.block (n + 1) (by omega)]; exact hy
    have HBW : Hid (Below n w W) := hB.trans (hb.mono (by omega))
    clear h0 h1 h2 h3 h4 h5 h56 h64 h75 hr ne hx hy hb hB hs hz
    unfold frS
    go_wp2_with fail
    refine wp_region_quiet (C := Out W) (by kernel_rfl) (by kernel_rfl) ⟨rfl, rfl, rfl, Nat.le_refl _, fun _ _ => rfl⟩ ?_
    refine BigFrame.wpQuiet_want rfl (fun K hK => ?_)
    refine quiet_val (.agg #[.int .i64 (hiOf (u)), .int .u64 (loOf (u))]) (fun w' hw' => run_num _ _ _ n _ w' rfl rfl ((Below.block hw' n (by omega)).trans kx)) (hK _ ?_)
    clear hK K
    simp only [Act.put, List.setIfInBounds_toArray, List.set_cons_zero, List.set_cons_succ]
    refine BigFrame.wpQuiet_want rfl (fun K hK => ?_)
    refine quiet_val (.agg #[.int .i64 (hiOf (v)), .int .u64 (loOf (v))]) (fun w' hw' => run_num _ _ _ (n + 1) _ w' rfl rfl ((Below.block hw' (n + 1) (by omega)).trans ky)) (hK _ ?_)
    clear hK K
    simp only [Act.put, List.setIfInBounds_toArray, List.set_cons_zero, List.set_cons_succ]
    refine BigFrame.wpQuiet_want rfl (fun K hK => ?_)
    refine quiet_call 11 #[(.agg #[.int .i64 (hiOf (u)), .int .u64 (loOf (u))]), (.agg #[.int .i64 (hiOf (v)), .int .u64 (loOf (v))])] (.agg #[.int .i64 (hiOf (u + v)), .int .u64 (loOf (u + v))]) (fun w' _ => by go_simp) (fun w' hw' => Calls.out hw' (HA.out _)) (hK _ ?_)
    clear hK K
    simp only [Act.put, List.setIfInBounds_toArray, List.set_cons_zero, List.set_cons_succ]
    refine BigFrame.wpQuiet_want rfl (fun K hK => ?_)
    refine quiet_call 10 #[(.agg #[.int .i64 (hiOf (u + v)), .int .u64 (loOf (u + v))])] (.agg r1) (fun w' _ => by go_simp) (fun w' hw' => Calls.out hw' (HB1.out _)) (hK _ ?_)
    clear hK K
    simp only [Act.put, List.setIfInBounds_toArray, List.set_cons_zero, List.set_cons_succ]
    refine BigFrame.wpQuiet_want rfl (fun K hK => ?_)
    refine quiet_row _ g5 ru rfl rfl HS.out.1 (fun w' hw' => At.on m5 hw' m5.lt) (hK _ ?_)
    clear hK K
    simp only [Act.put, List.setIfInBounds_toArray, List.set_cons_zero, List.set_cons_succ]
    refine BigFrame.wpQuiet_want rfl (fun K hK => ?_)
    refine quiet_row _ g6 rv rfl rfl HS.out.2.2.1 (fun w' hw' => At.on m6 hw' m6.lt) (hK _ ?_)
    clear hK K
    simp only [Act.put, List.setIfInBounds_toArray, List.set_cons_zero, List.set_cons_succ]
    refine BigFrame.wpQuiet_want rfl (fun K hK => ?_)
    refine quiet_call 12 #[.agg ru, .agg rv, .bool false] (.agg r1) (fun w' _ => by go_simp) (fun w' hw' => Calls.out hw' (HA'.out _)) (hK _ ?_)
    clear hK K
    simp only [Act.put, List.setIfInBounds_toArray, List.set_cons_zero, List.set_cons_succ]
    refine BigFrame.wpQuiet_want rfl (fun K hK => ?_)
    refine quiet_val (.bool true) (fun w' _ => by go_simp) (hK _ ?_)
    clear hK K
    simp only [Act.put, List.setIfInBounds_toArray, List.set_cons_zero, List.set_cons_succ]
    refine BigFrame.wpQuiet_want rfl (fun K hK => ?_)
    refine quiet_val (.bool true) (fun _ _ => by go_simp) (hK _ ?_)
    clear hK K
    simp only [Act.put, List.setIfInBounds_toArray, List.set_cons_zero, List.set_cons_succ]
    refine BigFrame.wpQuiet_want rfl (fun K hK => ?_)
    refine quiet_val (.agg #[.int .i64 (hiOf (u)), .int .u64 (loOf (u))]) (fun w' hw' => run_num _ _ _ n _ w' rfl rfl ((Below.block hw' n (by omega)).trans kx)) (hK _ ?_)
    clear hK K
    simp only [Act.put, List.setIfInBounds_toArray, List.set_cons_zero, List.set_cons_succ]
    refine BigFrame.wpQuiet_want rfl (fun K hK => ?_)
    refine quiet_val (.agg #[.int .i64 (hiOf (v)), .int .u64 (loOf (v))]) (fun w' hw' => run_num _ _ _ (n + 1) _ w' rfl rfl ((Below.block hw' (n + 1) (by omega)).trans ky)) (hK _ ?_)
    clear hK K
    simp only [Act.put, List.setIfInBounds_toArray, List.set_cons_zero, List.set_cons_succ]
    refine BigFrame.wpQuiet_want rfl (fun K hK => ?_)
    refine quiet_call 13 #[(.agg #[.int .i64 (hiOf (u)), .int .u64 (loOf (u))]), (.agg #[.int .i64 (hiOf (v)), .int .u64 (loOf (v))])] (.agg #[.int .i64 (hiOf (u - v)), .int .u64 (loOf (u - v))]) (fun w' _ => by go_simp) (fun w' hw' => Calls.out hw' (HD.out _)) (hK _ ?_)
    clear hK K
    simp only [Act.put, List.setIfInBounds_toArray, List.set_cons_zero, List.set_cons_succ]
    refine BigFrame.wpQuiet_want rfl (fun K hK => ?_)
    refine quiet_call 10 #[(.agg #[.int .i64 (hiOf (u - v)), .int .u64 (loOf (u - v))])] (.agg r2) (fun w' _ => by go_simp) (fun w' hw' => Calls.out hw' (HB2.out _)) (hK _ ?_)
    clear hK K
    simp only [Act.put, List.setIfInBounds_toArray, List.set_cons_zero, List.set_cons_succ]
    refine BigFrame.wpQuiet_want rfl (fun K hK => ?_)
    refine quiet_row _ g5 ru rfl rfl HS.out.1 (fun w' hw' => At.on m5 hw' m5.lt) (hK _ ?_)
    clear hK K
    simp only [Act.put, List.setIfInBounds_toArray, List.set_cons_zero, List.set_cons_succ]
    refine BigFrame.wpQuiet_want rfl (fun K hK => ?_)
    refine quiet_row _ g6 rv rfl rfl HS.out.2.2.1 (fun w' hw' => At.on m6 hw' m6.lt) (hK _ ?_)
    clear hK K
    simp only [Act.put, List.setIfInBounds_toArray, List.set_cons_zero, List.set_cons_succ]
    refine BigFrame.wpQuiet_want rfl (fun K hK => ?_)
    refine quiet_call 14 #[.agg ru, .agg rv] (.agg r2) (fun w' _ => by go_simp) (fun w' hw' => Calls.out hw' (HD'.out _)) (hK _ ?_)
    clear hK K
    simp only [Act.put, List.setIfInBounds_toArray, List.set_cons_zero, List.set_cons_succ]
    refine BigFrame.wpQuiet_want rfl (fun K hK => ?_)
    refine quiet_val (.bool true) (fun w' _ => by go_simp) (hK _ ?_)
    clear hK K
    simp only [Act.put, List.setIfInBounds_toArray, List.set_cons_zero, List.set_cons_succ]
    refine BigFrame.wpQuiet_want rfl (fun K hK => ?_)
    refine quiet_val (.bool true) (fun _ _ => rfl) (hK _ ?_)
    clear hK K
    simp only [Act.put, List.setIfInBounds_toArray, List.set_cons_zero, List.set_cons_succ]
    refine BigFrame.wpQuiet_want rfl (fun K hK => ?_)
    refine quiet_val (.bool true) (fun _ _ => by go_simp) (hK _ ?_)
    clear hK K
    simp only [Act.put, List.setIfInBounds_toArray, List.set_cons_zero, List.set_cons_succ]
    refine BigFrame.wpQuiet_want rfl (fun K hK => ?_)
    refine quiet_val (.agg #[.int .i64 (hiOf (u)), .int .u64 (loOf (u))]) (fun w' hw' => run_num _ _ _ n _ w' rfl rfl ((Below.block hw' n (by omega)).trans kx)) (hK _ ?_)
    clear hK K
    simp only [Act.put, List.setIfInBounds_toArray, List.set_cons_zero, List.set_cons_succ]
    refine BigFrame.wpQuiet_want rfl (fun K hK => ?_)
    refine quiet_call 15 #[(.agg #[.int .i64 (hiOf (u)), .int .u64 (loOf (u))])] (.agg #[.int .i64 (hiOf (-u)), .int .u64 (loOf (-u))]) (fun w' _ => by go_simp) (fun w' hw' => Calls.out hw' (HN.out _)) (hK _ ?_)
    clear hK K
    simp only [Act.put, List.setIfInBounds_toArray, List.set_cons_zero, List.set_cons_succ]
    refine BigFrame.wpQuiet_want rfl (fun K hK => ?_)
    refine quiet_call 10 #[(.agg #[.int .i64 (hiOf (-u)), .int .u64 (loOf (-u))])] (.agg r3) (fun w' _ => by go_simp) (fun w' hw' => Calls.out hw' (HB3.out _)) (hK _ ?_)
    clear hK K
    simp only [Act.put, List.setIfInBounds_toArray, List.set_cons_zero, List.set_cons_succ]
    refine BigFrame.wpQuiet_want rfl (fun K hK => ?_)
    refine quiet_row _ g5 ru rfl rfl HS.out.1 (fun w' hw' => At.on m5 hw' m5.lt) (hK _ ?_)
    clear hK K
    simp only [Act.put, List.setIfInBounds_toArray, List.set_cons_zero, List.set_cons_succ]
    refine BigFrame.wpQuiet_want rfl (fun K hK => ?_)
    refine quiet_call 16 #[.agg ru] (.agg r3) (fun w' _ => by go_simp) (fun w' hw' => Calls.out hw' (HN'.out _)) (hK _ ?_)
    clear hK K
    simp only [Act.put, List.setIfInBounds_toArray, List.set_cons_zero, List.set_cons_succ]
    refine BigFrame.wpQuiet_want rfl (fun K hK => ?_)
    refine quiet_val (.bool true) (fun w' _ => by go_simp) (hK _ ?_)
    clear hK K
    simp only [Act.put, List.setIfInBounds_toArray, List.set_cons_zero, List.set_cons_succ]
    refine BigFrame.wpQuiet_want rfl (fun K hK => ?_)
    refine quiet_val (.bool true) (fun _ _ => rfl) (hK _ ?_)
    clear hK K
    simp only [Act.put, List.setIfInBounds_toArray, List.set_cons_zero, List.set_cons_succ]
    refine BigFrame.wpQuiet_want rfl (fun K hK => ?_)
    refine quiet_val (.bool true) (fun _ _ => by go_simp) (hK _ ?_)
    clear hK K
    simp only [Act.put, List.setIfInBounds_toArray, List.set_cons_zero, List.set_cons_succ]
    refine BigFrame.wpQuiet_want rfl (fun K hK => ?_)
    refine quiet_call 17 #[] (.bool true) (fun w' _ => by go_simp) (fun w' hw' => Calls.out hw' (awake_any K' _)) (hK _ ?_)
    clear hK K
    simp only [Act.put, List.setIfInBounds_toArray, List.set_cons_zero, List.set_cons_succ]
    refine BigFrame.wpQuiet_want rfl (fun K hK => ?_)
    refine quiet_val (.bool true) (fun _ _ => rfl) (hK _ ?_)
    clear hK K
    simp only [Act.put, List.setIfInBounds_toArray, List.set_cons_zero, List.set_cons_succ]
    refine BigFrame.wpQuiet_want rfl (fun K hK => ?_)
    refine quiet_val (.bool true) (fun _ _ => by go_simp) (hK _ ?_)
    clear hK K
    simp only [Act.put, List.setIfInBounds_toArray, List.set_cons_zero, List.set_cons_succ]
    refine wpQuiet_nil ?_
    intro w' hw'
    go_wp2_with fail
    go_ret
    rw [hn]
    exact ⟨rfl, HBW.out.trans (hw'.mono (by omega))⟩
end Go.Proofs.Ytgkgdkdendmfnaa
