/- The law of P2.1 on the order of numbers, as a contract: it returns true, for every input. -/
import Derived.Test.YtgkgdkdendmfnaaZa
import Derived.Deep.CutBlock
import Derived.Deep.DeepCutAuto
namespace Go.Proofs.Ytgkgdkdendmfnaa
open Go.RowKit
/-- The frame in the first region. -/
def frO (uh ul vh vl : Int) (n : Nat) (t5 t6 v7 v8 v9 v10 : Value) : Act := { tmps := #[(.agg #[.int .i64 uh, .int .u64 ul]), (.agg #[.int .i64 vh, .int .u64 vl]), .pointer (some ⟨n, 0, none⟩), .pointer (some ⟨n + 1, 0, none⟩), .bool false, t5, t6, undef, undef, undef, undef, v7, v8, v9, v10, undef, undef, undef, undef, undef, undef, undef, undef, undef, undef, undef, undef, undef, undef, undef, undef, undef, undef, undef, undef, undef, undef, undef, undef, undef, undef, undef, undef, undef, undef, undef, undef, undef, undef, undef, undef, undef, undef, undef, undef, undef, undef, undef, undef, undef, undef, undef, undef, undef, undef, undef, undef, undef, undef, undef, undef, undef, undef, undef, undef, undef], defers := [] }
/-- What holds whichever operations have come up: u's bits and v's, on their way into two new rows. -/
def invO (uh ul vh vl : Int) (ru rv : Array Value) (n : Nat) (w1 : World) (L : Array Bool) (a : Act) (W : World) : Prop :=
  ∃ b0 b1 b2 b3 b4 b5 b6 b7 : Bool, ∃ (t5 t6 v7 v8 v9 v10 : Value) (g5 g6 : Nat), L = #[b0, b1, b2, b3, b4, b5, b6, b7] ∧ a = frO uh ul vh vl n t5 t6 v7 v8 v9 v10 ∧
    (b0 = true → v7 = (.agg #[.int .i64 uh, .int .u64 ul])) ∧ (b1 = true → v8 = .agg ru) ∧ (b2 = true → v9 = (.agg #[.int .i64 vh, .int .u64 vl])) ∧ (b3 = true → v10 = .agg rv) ∧
    (b4 = true → t5 = .pointer (some ⟨g5, 0, none⟩) ∧ n + 2 ≤ g5 ∧ At W g5 (cond b6 ru zeros)) ∧
    (b5 = true → t6 = .pointer (some ⟨g6, 0, none⟩) ∧ n + 2 ≤ g6 ∧ At W g6 (cond b7 rv zeros)) ∧
    (b4 = true → b5 = true → g5 ≠ g6) ∧ (b6 = true → b4 = true) ∧ (b7 = true → b5 = true) ∧ Below w1.heap.size w1 W
theorem zero_iffO (R : BitVec 128) : (hiOf R == 0 && (loOf R : Int) == 0) = decide (R.toInt = 0) := by
  have h1 := num_same R 0
  rw [hi_zero, lo_zero] at h1
  rw [h1, Bool.eq_iff_iff, decide_eq_true_eq, decide_eq_true_eq]
  constructor
  · rintro rfl; rfl
  · intro h0; exact BitVec.eq_of_toInt_eq (by rw [h0]; rfl)
set_option maxHeartbeats 4000000 in
set_option maxRecDepth 100000 in
theorem order_walk (uh ul vh vl : Int) (ru rv rz : Array Value) (l1 l2 ms ft : Bool) (cm sg zu : Int) (w : World)
    (HBu : Hid (∀ w, Calls Try.prog 10 #[.agg #[.int .i64 uh, .int .u64 ul]] w fun e w' => e = .returned (.agg ru) ∧ Below w.heap.size w w'))
    (HBv : Hid (∀ w, Calls Try.prog 10 #[.agg #[.int .i64 vh, .int .u64 vl]] w fun e w' => e = .returned (.agg rv) ∧ Below w.heap.size w w'))
    (HS : Hid (ru.size = 128 ∧ ru.all (·.oneCell') = true ∧ rv.size = 128 ∧ rv.all (·.oneCell') = true))
    (HL1 : Hid (∀ w, Calls Try.prog 22 #[.agg ru, .agg rv] w fun e w' => e = .returned (.bool l1) ∧ Below w.heap.size w w'))
    (HL2 : Hid (∀ w, Calls Try.prog 22 #[.agg rv, .agg ru] w fun e w' => e = .returned (.bool l2) ∧ Below w.heap.size w w'))
    (HC1 : Hid (∀ w, Calls Try.prog 24 #[.agg #[.int .i64 uh, .int .u64 ul], .agg #[.int .i64 vh, .int .u64 vl]] w fun e w' => e = .returned (.int .i64 cm) ∧ Below w.heap.size w w'))
    (HC2 : Hid (∀ w, Calls Try.prog 24 #[.agg #[.int .i64 vh, .int .u64 vl], .agg #[.int .i64 uh, .int .u64 ul]] w fun e w' => e = .returned (.int .i64 (-cm)) ∧ Below w.heap.size w w'))
    (HG : Hid (∀ w, Calls Try.prog 25 #[.agg #[.int .i64 uh, .int .u64 ul]] w fun e w' => e = .returned (.int .i64 sg) ∧ Below w.heap.size w w'))
    (HI : Hid (∀ w, Calls Try.prog 23 #[.agg #[.int .i64 uh, .int .u64 ul]] w fun e w' => e = .returned (.tuple #[.int .i64 (if ft = true then zu else 0), .bool ft]) ∧ Below w.heap.size w w'))
    (HRz : Hid (∀ w, Calls Try.prog 20 #[.int .i64 (wrap64 ul)] w fun e w' => e = .returned (.agg rz) ∧ Below w.heap.size w w'))
    (EZ : Hid (∀ w, (Op.equalIn 10000 25 (.agg rz) (.agg ru)).run Try.prog w = .ok ft w))
    (EO : Hid (∀ w, (Op.equalIn 10000 25 (.agg ru) (.agg ru)).run Try.prog w = .ok true w))
    (HRo : Hid (ft = true → ∀ w, Calls Try.prog 20 #[.int .i64 zu] w fun e w' => e = .returned (.agg ru) ∧ Below w.heap.size w w'))
    (HAu : Hid (ru[127]? = some (.bool ms))) (hcm : -1 ≤ cm ∧ cm ≤ 1) (HEX : Hid (l1 = true → l2 = false))
    (HCO : Hid (cm = (if l1 = true then -1 else if l2 = true then 1 else 0))) (HSG : Hid (sg = if ms = true then -1 else if (uh == 0 && ul == 0) = true then 0 else 1)) :
    Calls Try.prog 5 #[(.agg #[.int .i64 uh, .int .u64 ul]), (.agg #[.int .i64 vh, .int .u64 vl])] w fun e w' => e = .returned (.bool true) ∧ Below w.heap.size w w' := by
  have hz := zeroRow
  go_enter Try.func5, Try.ntmps5
  go_wp2_with fail
  obtain ⟨w1, hw1⟩ : ∃ w1, (w.alloc (.cells #[.int .i64 uh, .int .u64 ul] 24)).alloc (.cells #[.int .i64 vh, .int .u64 vl] 24) = w1 := ⟨_, rfl⟩
  have hx : w1.heap[w.heap.size]? = some (.cells #[.int .i64 uh, .int .u64 ul] 24) := by rw [← hw1]; exact heap_alloc2_old _ _ _
  have hy : w1.heap[w.heap.size + 1]? = some (.cells #[.int .i64 vh, .int .u64 vl] 24) := by rw [← hw1]; exact heap_alloc2_new _ _ _
  have hB : Below w.heap.size w w1 := by rw [← hw1]; exact ((Below.refl _ _).alloc (Nat.le_refl _) _).alloc (by simp) _
  have hs : w1.heap.size = w.heap.size + 2 := by rw [← hw1]; simp
  rw [hw1]
  clear hw1
  have HB := Lib.hid hB
  generalize hn : w.heap.size = n at *
  go_cut [5, 6] (fun t5 t6 wx => ∃ g5 g6 : Nat, t5 = .pointer (some ⟨g5, 0, none⟩) ∧ t6 = .pointer (some ⟨g6, 0, none⟩) ∧ Hid (At wx g5 ru ∧ At wx g6 rv ∧ n + 2 ≤ g5 ∧ n + 2 ≤ g6 ∧ NumAt wx n uh ul ∧ NumAt wx (n + 1) vh vl ∧ Below n w wx))
  case first =>
    refine wp_region_inv (by kernel_rfl) (invO uh ul vh vl ru rv n w1) ?_ ?_ ?_
    · exact ⟨false, false, false, false, false, false, false, false, undef, undef, undef, undef, undef, undef, 0, 0, rfl, rfl, by simp, by simp, by simp, by simp, by simp, by simp, by simp, by simp, by simp, ⟨rfl, rfl, rfl, Nat.le_refl _, fun _ _ => rfl⟩⟩
    · rintro L a W i ⟨b0, b1, b2, b3, b4, b5, b6, b7, t5, t6, v7, v8, v9, v10, g5, g6, rfl, rfl, h0, h1, h2, h3, h4, h5, h56, h64, h75, hb⟩ hi
      obtain ⟨hun, o, ho, hall⟩ := mem_ready.1 hi
      have hlt : i < 8 := (Array.getElem?_eq_some_iff.1 ho).1
      have hWs : n + 2 ≤ W.heap.size := hs ▸ hb.size
      have kx : W.heap[n]? = some (.cells #[.int .i64 uh, .int .u64 ul] 24) := by rw [hb.block n (by omega)]; exact hx
      have ky : W.heap[n + 1]? = some (.cells #[.int .i64 vh, .int .u64 vl] 24) := by rw [hb.block (n + 1) (by omega)]; exact hy
      have c1 : W.cell? ⟨n, 0, none⟩ = some (.int .i64 uh) := by rw [Joins.cell_of_block kx 0]; rfl
      have c2 : W.cell? ⟨n, 1, none⟩ = some (.int .u64 ul) := by rw [Joins.cell_of_block kx 1]; rfl
      have c3 : W.cell? ⟨n + 1, 0, none⟩ = some (.int .i64 vh) := by rw [Joins.cell_of_block ky 0]; rfl
      have c4 : W.cell? ⟨n + 1, 1, none⟩ = some (.int .u64 vl) := by rw [Joins.cell_of_block ky 1]; rfl
      have H4 := Lib.hid h4; have H5 := Lib.hid h5; have H6 := Lib.hid h56
      clear h4 h5 h56 hx hy kx ky hB
      have on5 : ∀ W1 c, Below W.heap.size W W1 → (b4 = true → t5 = .pointer (some ⟨g5, 0, none⟩) ∧ n + 2 ≤ g5 ∧ At W g5 c) → (b4 = true → t5 = .pointer (some ⟨g5, 0, none⟩) ∧ n + 2 ≤ g5 ∧ At W1 g5 c) := fun W1 c hW h hb => ⟨(h hb).1, (h hb).2.1, At.on (h hb).2.2 hW (h hb).2.2.lt⟩
      have on6 : ∀ W1 c, Below W.heap.size W W1 → (b5 = true → t6 = .pointer (some ⟨g6, 0, none⟩) ∧ n + 2 ≤ g6 ∧ At W g6 c) → (b5 = true → t6 = .pointer (some ⟨g6, 0, none⟩) ∧ n + 2 ≤ g6 ∧ At W1 g6 c) := fun W1 c hW h hb => ⟨(h hb).1, (h hb).2.1, At.on (h hb).2.2 hW (h hb).2.2.lt⟩
      have O5 := Lib.hid on5; have O6 := Lib.hid on6
      clear on5 on6
      rcases i with _ | _ | _ | _ | _ | _ | _ | _ | i
      · refine wpOp_step rfl (fun K hK => ?_)
        have HK := Lib.hid hK; clear hK
        unfold frO
        go_simp
        exact HK.out _ _ ⟨true, b1, b2, b3, b4, b5, b6, b7, t5, t6, _, v8, v9, v10, g5, g6, rfl, rfl, fun _ => rfl, h1, h2, h3, H4.out, H5.out, H6.out, h64, h75, hb⟩
      · have d0 : b0 = true := hall ⟨0, .data⟩ (by obtain rfl := Option.some.inj ho; simp) rfl
        obtain rfl := h0 d0
        refine wpOp_step rfl (fun K hK => ?_)
        have HK := Lib.hid hK; clear hK
        unfold frO
        go_simp
        refine (HBu.out _).mono ?_
        rintro e W1 ⟨rfl, hb1⟩
        exact HK.out _ _ ⟨b0, true, b2, b3, b4, b5, b6, b7, t5, t6, _, _, v9, v10, g5, g6, rfl, rfl, h0, fun _ => rfl, h2, h3, O5.out _ _ hb1 H4.out, O6.out _ _ hb1 H5.out, H6.out, h64, h75, below_next hb hb1⟩
      · refine wpOp_step rfl (fun K hK => ?_)
        have HK := Lib.hid hK; clear hK
        unfold frO
        go_simp
        exact HK.out _ _ ⟨b0, b1, true, b3, b4, b5, b6, b7, t5, t6, v7, v8, _, v10, g5, g6, rfl, rfl, h0, h1, fun _ => rfl, h3, H4.out, H5.out, H6.out, h64, h75, hb⟩
      · have d2 : b2 = true := hall ⟨2, .data⟩ (by obtain rfl := Option.some.inj ho; simp) rfl
        obtain rfl := h2 d2
        refine wpOp_step rfl (fun K hK => ?_)
        have HK := Lib.hid hK; clear hK
        unfold frO
        go_simp
        refine (HBv.out _).mono ?_
        rintro e W1 ⟨rfl, hb1⟩
        exact HK.out _ _ ⟨b0, b1, b2, true, b4, b5, b6, b7, t5, t6, v7, v8, _, _, g5, g6, rfl, rfl, h0, h1, h2, fun _ => rfl, O5.out _ _ hb1 H4.out, O6.out _ _ hb1 H5.out, H6.out, h64, h75, below_next hb hb1⟩
      · have n4 : b4 = false := hun
        have n6 : b6 = false := by cases b6; rfl; rw [h64 rfl] at n4; cases n4
        refine wpOp_step rfl (fun K hK => ?_)
        have HK := Lib.hid hK; clear hK
        unfold frO
        go_simp
        have hb1 : Below W.heap.size W (W.alloc (.cells zeros 25)) := (Below.refl _ _).alloc (Nat.le_refl _) _
        exact HK.out _ _ ⟨b0, b1, b2, b3, true, b5, b6, b7, _, t6, v7, v8, v9, v10, W.heap.size, g6, rfl, rfl, h0, h1, h2, h3, fun _ => ⟨rfl, hWs, by rw [n6]; exact heap_alloc_last _ _⟩, O6.out _ _ hb1 H5.out, fun _ h e => by have := (H5.out h).2.2.lt; omega, fun _ => rfl, h75, below_next hb hb1⟩
      · have n5 : b5 = false := hun
        have n7 : b7 = false := by cases b7; rfl; rw [h75 rfl] at n5; cases n5
        refine wpOp_step rfl (fun K hK => ?_)
        have HK := Lib.hid hK; clear hK
        unfold frO
        go_simp
        have hb1 : Below W.heap.size W (W.alloc (.cells zeros 25)) := (Below.refl _ _).alloc (Nat.le_refl _) _
        exact HK.out _ _ ⟨b0, b1, b2, b3, b4, true, b6, b7, t5, _, v7, v8, v9, v10, g5, W.heap.size, rfl, rfl, h0, h1, h2, h3, O5.out _ _ hb1 H4.out, fun _ => ⟨rfl, hWs, by rw [n7]; exact heap_alloc_last _ _⟩, fun h _ e => by have := (H4.out h).2.2.lt; omega, h64, fun _ => rfl, below_next hb hb1⟩
      · have d4 : b4 = true := hall ⟨4, .data⟩ (by obtain rfl := Option.some.inj ho; simp) rfl
        have d1 : b1 = true := hall ⟨1, .data⟩ (by obtain rfl := Option.some.inj ho; simp) rfl
        have d5 : b5 = true := hall ⟨5, .phase⟩ (by obtain rfl := Option.some.inj ho; simp) rfl
        have n6 : b6 = false := hun
        obtain rfl := h1 d1
        obtain ⟨rfl, m1, m2⟩ := H4.out d4
        rw [n6] at m2
        replace m2 : At W g5 zeros := m2
        refine wpOp_step rfl (fun K hK => ?_)
        have HK := Lib.hid hK; clear hK
        simp only [List.getElem_toArray, List.getElem_cons_succ, List.getElem_cons_zero]
        unfold frO
        refine (if_pos rfl).mpr (wp_store_row 25 _ _ rfl g5 ru rfl rfl 25 zeros m2 (by rw [HS.out.1]; exact sizeRow) (by rw [HS.out.1, zeros_size]) HS.out.2.1 ?_)
        exact HK.out _ _ ⟨b0, b1, b2, b3, b4, b5, true, b7, _, t6, v7, _, v9, v10, g5, g6, rfl, rfl, h0, fun _ => rfl, h2, h3, fun _ => ⟨rfl, m1, setRow_heap _ _ _ _ _ _ m2⟩, fun h => ⟨(H5.out h).1, (H5.out h).2.1, (H5.out h).2.2.row _ (fun e => H6.out d4 h e)⟩, H6.out, fun _ => d4, h75, below_setRow hb (by omega) _⟩
      · have d5 : b5 = true := hall ⟨5, .data⟩ (by obtain rfl := Option.some.inj ho; simp) rfl
        have d3 : b3 = true := hall ⟨3, .data⟩ (by obtain rfl := Option.some.inj ho; simp) rfl
        have n7 : b7 = false := hun
        obtain rfl := h3 d3
        obtain ⟨rfl, m1, m2⟩ := H5.out d5
        rw [n7] at m2
        replace m2 : At W g6 zeros := m2
        refine wpOp_step rfl (fun K hK => ?_)
        have HK := Lib.hid hK; clear hK
        simp only [List.getElem_toArray, List.getElem_cons_succ, List.getElem_cons_zero]
        unfold frO
        refine (if_pos rfl).mpr (wp_store_row 25 _ _ rfl g6 rv rfl rfl 25 zeros m2 (by rw [HS.out.2.2.1]; exact sizeRow) (by rw [HS.out.2.2.1, zeros_size]) HS.out.2.2.2 ?_)
        exact HK.out _ _ ⟨b0, b1, b2, b3, b4, b5, b6, true, t5, _, v7, v8, v9, _, g5, g6, rfl, rfl, h0, h1, h2, fun _ => rfl, fun h => ⟨(H4.out h).1, (H4.out h).2.1, (H4.out h).2.2.row _ (fun e => H6.out h d5 e.symm)⟩, fun _ => ⟨rfl, m1, setRow_heap _ _ _ _ _ _ m2⟩, H6.out, h64, fun _ => d5, below_setRow hb (by omega) _⟩
      · omega
    · rintro L a W ⟨b0, b1, b2, b3, b4, b5, b6, b7, t5, t6, v7, v8, v9, v10, g5, g6, rfl, rfl, h0, h1, h2, h3, h4, h5, h56, h64, h75, hb⟩ hr
      have ne : ∀ i, i ∈ Region.ready .any _ _ → False := fun i hi => by rw [hr] at hi; cases hi
      cases b0
      · exact (ne 0 (mem_ready.2 ⟨rfl, _, rfl, by simp⟩)).elim
      cases b1
      · exact (ne 1 (mem_ready.2 ⟨rfl, _, rfl, by simp⟩)).elim
      cases b2
      · exact (ne 2 (mem_ready.2 ⟨rfl, _, rfl, by simp⟩)).elim
      cases b3
      · exact (ne 3 (mem_ready.2 ⟨rfl, _, rfl, by simp⟩)).elim
      cases b4
      · exact (ne 4 (mem_ready.2 ⟨rfl, _, rfl, by simp⟩)).elim
      cases b5
      · exact (ne 5 (mem_ready.2 ⟨rfl, _, rfl, by simp⟩)).elim
      cases b6
      · exact (ne 6 (mem_ready.2 ⟨rfl, _, rfl, by simp⟩)).elim
      cases b7
      · exact (ne 7 (mem_ready.2 ⟨rfl, _, rfl, by simp⟩)).elim
      clear ne
      obtain ⟨rfl, m1, m2⟩ := h4 rfl
      obtain ⟨rfl, m3, m4⟩ := h5 rfl
      have kx : NumAt W n uh ul := by unfold NumAt; rw [hb.block n (by omega)]; exact hx
      have ky : NumAt W (n + 1) vh vl := by unfold NumAt; rw [hb.block (n + 1) (by omega)]; exact hy
      have Bn : Below n w W := HB.out.trans (hb.mono (by omega))
      have HH := Lib.hid (show At W g5 ru ∧ At W g6 rv ∧ n + 2 ≤ g5 ∧ n + 2 ≤ g6 ∧ NumAt W n uh ul ∧ NumAt W (n + 1) vh vl ∧ Below n w W from ⟨m2, m4, m1, m3, kx, ky, Bn⟩)
      clear h0 h1 h2 h3 h4 h5 h56 h64 h75 hb kx ky Bn m1 m2 m3 m4 hx hy hB hs hr
      unfold frO
      go_wp2_with fail
      go_meet
      exact ⟨_, _, rfl, rfl, HH⟩
  case rest =>
    obtain ⟨g5, g6, rfl, rfl, hh⟩ := hcut
    obtain ⟨m5, m6, l5, l6, mx, my, bn⟩ := hh.out
    have M5 := Lib.hid m5
    have M6 := Lib.hid m6
    have MX := Lib.hid mx
    have MY := Lib.hid my
    have BN := Lib.hid bn
    have SZ : Hid (ru.size = 128 ∧ rv.size = 128) := ⟨HS.out.1, HS.out.2.2.1⟩
    clear hh m5 m6 mx my bn hx hy hB hs HB HBu HBv HS w1
    go_wp2_with (first | (refine wpList_load_row rfl 25 _ rfl g5 rfl 25 ru (0, 0) _ M5.out Try.underlying25 rfl (by rw [SZ.out.1]; exact sizeRow) ?_) | (refine wpList_load_row rfl 25 _ rfl g6 rfl 25 rv (0, 0) _ M6.out Try.underlying25 rfl (by rw [SZ.out.2]; exact sizeRow) ?_))
    refine (HL1.out _).mono ?_
    rintro e w2 ⟨rfl, hbl⟩
    replace M5 := Lib.hid (M5.out.on hbl M5.out.lt)
    replace M6 := Lib.hid (M6.out.on hbl M6.out.lt)
    replace MX := Lib.hid (MX.out.keep hbl)
    replace MY := Lib.hid (MY.out.keep hbl)
    replace BN := Lib.hid (hn ▸ below_next (hn ▸ BN.out) hbl)
    clear hbl
    go_upto_if 17 with fail
    obtain ⟨p1, hp1⟩ : ∃ p : Int, (if l1 = true then (-1 : Int) else 0) = p := ⟨_, rfl⟩
    have HP1 := Lib.hid hp1
    clear hp1
    go_cut [7] (fun t wx => t = .int .i64 p1 ∧ wx = w2)
    case first =>
      cases l1
      · go_wp2_with fail
        go_meet
        exact ⟨congrArg (Value.int .i64) HP1.out, rfl⟩
      · go_wp2_with fail
        go_meet
        exact ⟨congrArg (Value.int .i64) HP1.out, rfl⟩
    obtain ⟨rfl, rfl⟩ := hcut
    go_wp2_with (first | (refine wpList_load_row rfl 25 _ rfl g5 rfl 25 ru (0, 0) _ M5.out Try.underlying25 rfl (by rw [SZ.out.1]; exact sizeRow) ?_) | (refine wpList_load_row rfl 25 _ rfl g6 rfl 25 rv (0, 0) _ M6.out Try.underlying25 rfl (by rw [SZ.out.2]; exact sizeRow) ?_))
    refine (HL2.out _).mono ?_
    rintro e w3 ⟨rfl, hbl⟩
    replace M5 := Lib.hid (M5.out.on hbl M5.out.lt)
    replace M6 := Lib.hid (M6.out.on hbl M6.out.lt)
    replace MX := Lib.hid (MX.out.keep hbl)
    replace MY := Lib.hid (MY.out.keep hbl)
    replace BN := Lib.hid (hn ▸ below_next (hn ▸ BN.out) hbl)
    clear hbl
    go_upto_if 20 with fail
    go_cut [7] (fun t wx => t = .int .i64 cm ∧ wx = w3)
    case first =>
      cases l2
      · have hc2 : p1 = cm := by rw [HCO.out, ← HP1.out]; simp
        have HC2e := Lib.hid hc2
        clear hc2
        go_wp2_with fail
        go_meet
        exact ⟨congrArg (Value.int .i64) HC2e.out, rfl⟩
      · have hl : l1 = false := by
          cases l1
          · rfl
          · exact absurd (HEX.out rfl) (by decide)
        have hc2 : 1 = cm := by rw [HCO.out, hl]; rfl
        have HC2e := Lib.hid hc2
        clear hc2 hl
        go_wp2_with fail
        go_meet
        exact ⟨congrArg (Value.int .i64) HC2e.out, rfl⟩
    obtain ⟨rfl, rfl⟩ := hcut
    clear HCO
    have c127 : wc.cell? ⟨g5, 127, none⟩ = some (.bool ms) := (M5.out.cell 127).trans HAu.out
    go_upto_if 22 with fail
    clear c127
    go_cut [8] (fun t wx => t = .int .i64 sg ∧ wx = wc)
    case first =>
      have cX0 := MX.out.c0
      have cX1 := MX.out.c1
      cases ms
      · by_cases e1 : uh = 0
        · have e3 : (uh == 0) = true := by simpa using e1
          by_cases e2 : ul = 0
          · have e4 : (ul == 0) = true := by simpa using e2
            have hsg : 0 = sg := by rw [HSG.out, e3, e4]; rfl
            have HG2 := Lib.hid hsg
            clear hsg HSG e3 e4
            subst e1 e2
            go_wp2_with fail
            go_meet
            exact ⟨congrArg (Value.int .i64) HG2.out, rfl⟩
          · have e4 : (ul == 0) = false := by simpa using e2
            have hsg : 1 = sg := by rw [HSG.out, e3, e4]; rfl
            have HG2 := Lib.hid hsg
            clear hsg HSG e3
            subst e1
            go_wp2_with fail
            go_meet
            exact ⟨congrArg (Value.int .i64) HG2.out, rfl⟩
        · have e3 : (uh == 0) = false := by simpa using e1
          have hsg : 1 = sg := by rw [HSG.out, e3]; rfl
          have HG2 := Lib.hid hsg
          clear hsg HSG
          go_wp2_with fail
          go_meet
          exact ⟨congrArg (Value.int .i64) HG2.out, rfl⟩
      · have hsg : -1 = sg := by rw [HSG.out]; rfl
        have HG2 := Lib.hid hsg
        clear hsg HSG cX0 cX1
        go_wp2_with fail
        go_meet
        exact ⟨congrArg (Value.int .i64) HG2.out, rfl⟩
    obtain ⟨rfl, rfl⟩ := hcut
    clear HSG HAu HEX HP1 HL1 HL2
    obtain ⟨nn, hnn⟩ : ∃ nn : Int, (if ft = true then zu else 0) = nn := ⟨_, rfl⟩
    rw [hnn] at HI
    have HNN := Lib.hid hnn
    clear hnn
    have cX0 := MX.out.c0
    have cX1 := MX.out.c1
    go_wp2_with fail
    refine (HI.out _).mono ?_
    rintro e w4 ⟨rfl, hbl⟩
    clear cX0 cX1
    replace M5 := Lib.hid (M5.out.on hbl M5.out.lt)
    replace M6 := Lib.hid (M6.out.on hbl M6.out.lt)
    replace MX := Lib.hid (MX.out.keep hbl)
    replace MY := Lib.hid (MY.out.keep hbl)
    replace BN := Lib.hid (hn ▸ below_next (hn ▸ BN.out) hbl)
    clear hbl
    go_upto_region 13 with fail
    go_cut [53] (fun t wx => t = .bool false ∧ Hid (NumAt wx n uh ul ∧ NumAt wx (n + 1) vh vl ∧ Below n w wx))
    case first =>
      cases ft
      · have hn0 : 0 = nn := HNN.out
        subst hn0
        have Ez := EZ.out
        refine wp_region_quiet (C := Out w4) (by kernel_rfl) (by kernel_rfl) ⟨rfl, rfl, rfl, Nat.le_refl _, fun _ _ => rfl⟩ ?_
        refine BigFrame.wpQuiet_want rfl (fun K hK => ?_)
        refine quiet_val (.bool false) (fun w' _ => by go_simp) (hK _ ?_)
        clear hK K
        simp only [Act.put, List.setIfInBounds_toArray, List.set_cons_zero, List.set_cons_succ]
        refine BigFrame.wpQuiet_want rfl (fun K hK => ?_)
        refine quiet_val (.bool false) (fun w' _ => by go_simp) (hK _ ?_)
        clear hK K
        simp only [Act.put, List.setIfInBounds_toArray, List.set_cons_zero, List.set_cons_succ]
        go_big_quiet_skip
        go_big_quiet_skip
        go_big_quiet_skip
        go_big_quiet_skip
        refine BigFrame.wpQuiet_want rfl (fun K hK => ?_)
        refine quiet_val (.bool false) (fun _ _ => rfl) (hK _ ?_)
        clear hK K
        simp only [Act.put, List.setIfInBounds_toArray, List.set_cons_zero, List.set_cons_succ]
        refine BigFrame.wpQuiet_want rfl (fun K hK => ?_)
        refine quiet_val (.bool false) (fun w' _ => by go_simp) (hK _ ?_)
        clear hK K
        simp only [Act.put, List.setIfInBounds_toArray, List.set_cons_zero, List.set_cons_succ]
        refine BigFrame.wpQuiet_want rfl (fun K hK => ?_)
        refine quiet_val (.bool false) (fun w' _ => by go_simp) (hK _ ?_)
        clear hK K
        simp only [Act.put, List.setIfInBounds_toArray, List.set_cons_zero, List.set_cons_succ]
        refine BigFrame.wpQuiet_want rfl (fun K hK => ?_)
        refine quiet_val (.bool true) (fun w' _ => by go_simp) (hK _ ?_)
        clear hK K
        simp only [Act.put, List.setIfInBounds_toArray, List.set_cons_zero, List.set_cons_succ]
        refine BigFrame.wpQuiet_want rfl (fun K hK => ?_)
        refine quiet_val (.bool true) (fun w' _ => by go_simp) (hK _ ?_)
        clear hK K
        simp only [Act.put, List.setIfInBounds_toArray, List.set_cons_zero, List.set_cons_succ]
        refine BigFrame.wpQuiet_want rfl (fun K hK => ?_)
        refine quiet_val (.int .i64 0) (fun w' _ => by go_simp) (hK _ ?_)
        clear hK K
        simp only [Act.put, List.setIfInBounds_toArray, List.set_cons_zero, List.set_cons_succ]
        refine BigFrame.wpQuiet_want rfl (fun K hK => ?_)
        refine quiet_val (.bool false) (fun w' _ => by go_simp) (hK _ ?_)
        clear hK K
        simp only [Act.put, List.setIfInBounds_toArray, List.set_cons_zero, List.set_cons_succ]
        refine BigFrame.wpQuiet_want rfl (fun K hK => ?_)
        refine quiet_val (.bool false) (fun w' _ => by go_simp) (hK _ ?_)
        clear hK K
        simp only [Act.put, List.setIfInBounds_toArray, List.set_cons_zero, List.set_cons_succ]
        refine BigFrame.wpQuiet_want rfl (fun K hK => ?_)
        refine quiet_val (.pointer (some ⟨n, 1, none⟩)) (fun w' _ => by go_simp) (hK _ ?_)
        clear hK K
        simp only [Act.put, List.setIfInBounds_toArray, List.set_cons_zero, List.set_cons_succ]
        refine BigFrame.wpQuiet_want rfl (fun K hK => ?_)
        refine quiet_val (.int .u64 ul) (fun w' hw' => by have c1 : w'.cell? ⟨n, 1, none⟩ = some (.int .u64 ul) := (MX.out.keep hw').c1; go_simp) (hK _ ?_)
        clear hK K
        simp only [Act.put, List.setIfInBounds_toArray, List.set_cons_zero, List.set_cons_succ]
        refine BigFrame.wpQuiet_want rfl (fun K hK => ?_)
        refine quiet_val (.int .i64 (wrap64 ul)) (fun w' _ => by go_simp; rw [IntKind.wrap_i64]; unfold wrap64; omega) (hK _ ?_)
        clear hK K
        simp only [Act.put, List.setIfInBounds_toArray, List.set_cons_zero, List.set_cons_succ]
        refine BigFrame.wpQuiet_want rfl (fun K hK => ?_)
        refine quiet_call 20 #[.int .i64 (wrap64 ul)] (.agg rz) (fun w' _ => by go_simp) (fun w' hw' => Calls.out hw' (HRz.out _)) (hK _ ?_)
        clear hK K
        simp only [Act.put, List.setIfInBounds_toArray, List.set_cons_zero, List.set_cons_succ]
        refine BigFrame.wpQuiet_want rfl (fun K hK => ?_)
        refine quiet_row _ g5 ru rfl rfl SZ.out.1 (fun w' hw' => Out.at hw' M5.out) (hK _ ?_)
        clear hK K
        simp only [Act.put, List.setIfInBounds_toArray, List.set_cons_zero, List.set_cons_succ]
        refine BigFrame.wpQuiet_want rfl (fun K hK => ?_)
        refine quiet_val (.bool false) (fun w' _ => by go_simp) (hK _ ?_)
        clear hK K
        simp only [Act.put, List.setIfInBounds_toArray, List.set_cons_zero, List.set_cons_succ]
        refine BigFrame.wpQuiet_want rfl (fun K hK => ?_)
        refine quiet_val (.bool false) (fun _ _ => rfl) (hK _ ?_)
        clear hK K
        simp only [Act.put, List.setIfInBounds_toArray, List.set_cons_zero, List.set_cons_succ]
        refine BigFrame.wpQuiet_want rfl (fun K hK => ?_)
        refine quiet_val (.bool false) (fun _ _ => rfl) (hK _ ?_)
        clear hK K
        simp only [Act.put, List.setIfInBounds_toArray, List.set_cons_zero, List.set_cons_succ]
        refine BigFrame.wpQuiet_want rfl (fun K hK => ?_)
        refine quiet_val (.bool false) (fun _ _ => rfl) (hK _ ?_)
        clear hK K
        simp only [Act.put, List.setIfInBounds_toArray, List.set_cons_zero, List.set_cons_succ]
        refine wpQuiet_nil ?_
        intro w' hw'
        have HH := Lib.hid (show NumAt w' n uh ul ∧ NumAt w' (n + 1) vh vl ∧ Below n w w' from ⟨MX.out.keep hw', MY.out.keep hw', hn ▸ below_next (hn ▸ BN.out) hw'⟩)
        clear hw'
        go_wp2_with fail
        go_meet
        exact ⟨rfl, HH⟩
      · have hn0 : zu = nn := HNN.out
        subst hn0
        have Eo := EO.out
        have HR := Lib.hid (HRo.out rfl)
        refine wp_region_quiet (C := Out w4) (by kernel_rfl) (by kernel_rfl) ⟨rfl, rfl, rfl, Nat.le_refl _, fun _ _ => rfl⟩ ?_
        refine BigFrame.wpQuiet_want rfl (fun K hK => ?_)
        refine quiet_val (.bool true) (fun w' _ => by go_simp) (hK _ ?_)
        clear hK K
        simp only [Act.put, List.setIfInBounds_toArray, List.set_cons_zero, List.set_cons_succ]
        refine BigFrame.wpQuiet_want rfl (fun K hK => ?_)
        refine quiet_val (.bool true) (fun w' _ => by go_simp) (hK _ ?_)
        clear hK K
        simp only [Act.put, List.setIfInBounds_toArray, List.set_cons_zero, List.set_cons_succ]
        refine BigFrame.wpQuiet_want rfl (fun K hK => ?_)
        refine quiet_val (.int .i64 zu) (fun w' _ => by go_simp) (hK _ ?_)
        clear hK K
        simp only [Act.put, List.setIfInBounds_toArray, List.set_cons_zero, List.set_cons_succ]
        refine BigFrame.wpQuiet_want rfl (fun K hK => ?_)
        refine quiet_call 20 #[.int .i64 zu] (.agg ru) (fun w' _ => by go_simp) (fun w' hw' => Calls.out hw' (HR.out _)) (hK _ ?_)
        clear hK K
        simp only [Act.put, List.setIfInBounds_toArray, List.set_cons_zero, List.set_cons_succ]
        refine BigFrame.wpQuiet_want rfl (fun K hK => ?_)
        refine quiet_row _ g5 ru rfl rfl SZ.out.1 (fun w' hw' => Out.at hw' M5.out) (hK _ ?_)
        clear hK K
        simp only [Act.put, List.setIfInBounds_toArray, List.set_cons_zero, List.set_cons_succ]
        refine BigFrame.wpQuiet_want rfl (fun K hK => ?_)
        refine quiet_val (.bool false) (fun w' _ => by go_simp) (hK _ ?_)
        clear hK K
        simp only [Act.put, List.setIfInBounds_toArray, List.set_cons_zero, List.set_cons_succ]
        refine BigFrame.wpQuiet_want rfl (fun K hK => ?_)
        refine quiet_val (.bool false) (fun _ _ => rfl) (hK _ ?_)
        clear hK K
        simp only [Act.put, List.setIfInBounds_toArray, List.set_cons_zero, List.set_cons_succ]
        refine BigFrame.wpQuiet_want rfl (fun K hK => ?_)
        refine quiet_val (.bool false) (fun w' _ => by go_simp) (hK _ ?_)
        clear hK K
        simp only [Act.put, List.setIfInBounds_toArray, List.set_cons_zero, List.set_cons_succ]
        refine BigFrame.wpQuiet_want rfl (fun K hK => ?_)
        refine quiet_val (.bool true) (fun w' _ => by go_simp) (hK _ ?_)
        clear hK K
        simp only [Act.put, List.setIfInBounds_toArray, List.set_cons_zero, List.set_cons_succ]
        refine BigFrame.wpQuiet_want rfl (fun K hK => ?_)
        refine quiet_val (.bool false) (fun w' _ => by go_simp) (hK _ ?_)
        clear hK K
        simp only [Act.put, List.setIfInBounds_toArray, List.set_cons_zero, List.set_cons_succ]
        refine BigFrame.wpQuiet_want rfl (fun K hK => ?_)
        refine quiet_val (.bool false) (fun w' _ => by go_simp) (hK _ ?_)
        clear hK K
        simp only [Act.put, List.setIfInBounds_toArray, List.set_cons_zero, List.set_cons_succ]
        go_big_quiet_skip
        go_big_quiet_skip
        go_big_quiet_skip
        go_big_quiet_skip
        go_big_quiet_skip
        go_big_quiet_skip
        go_big_quiet_skip
        go_big_quiet_skip
        go_big_quiet_skip
        go_big_quiet_skip
        refine BigFrame.wpQuiet_want rfl (fun K hK => ?_)
        refine quiet_val (.bool false) (fun _ _ => rfl) (hK _ ?_)
        clear hK K
        simp only [Act.put, List.setIfInBounds_toArray, List.set_cons_zero, List.set_cons_succ]
        refine BigFrame.wpQuiet_want rfl (fun K hK => ?_)
        refine quiet_val (.bool false) (fun _ _ => rfl) (hK _ ?_)
        clear hK K
        simp only [Act.put, List.setIfInBounds_toArray, List.set_cons_zero, List.set_cons_succ]
        refine wpQuiet_nil ?_
        intro w' hw'
        have HH := Lib.hid (show NumAt w' n uh ul ∧ NumAt w' (n + 1) vh vl ∧ Below n w w' from ⟨MX.out.keep hw', MY.out.keep hw', hn ▸ below_next (hn ▸ BN.out) hw'⟩)
        clear hw'
        go_wp2_with fail
        go_meet
        exact ⟨rfl, HH⟩
    obtain ⟨rfl, hh⟩ := hcut
    replace MX := Lib.hid hh.out.1
    replace MY := Lib.hid hh.out.2.1
    replace BN := Lib.hid hh.out.2.2
    clear hh
    have cX0 := MX.out.c0
    have cX1 := MX.out.c1
    have cY0 := MY.out.c0
    have cY1 := MY.out.c1
    go_wp2_with fail
    refine (HC1.out _).mono ?_
    rintro e w5 ⟨rfl, hbl⟩
    clear cX0 cX1 cY0 cY1
    replace MX := Lib.hid (MX.out.keep hbl)
    replace MY := Lib.hid (MY.out.keep hbl)
    replace BN := Lib.hid (hn ▸ below_next (hn ▸ BN.out) hbl)
    clear hbl
    have cX0 := MX.out.c0
    have cX1 := MX.out.c1
    have cY0 := MY.out.c0
    have cY1 := MY.out.c1
    go_wp2_with fail
    refine (HC2.out _).mono ?_
    rintro e w6 ⟨rfl, hbl⟩
    clear cX0 cX1 cY0 cY1
    replace MX := Lib.hid (MX.out.keep hbl)
    replace MY := Lib.hid (MY.out.keep hbl)
    replace BN := Lib.hid (hn ▸ below_next (hn ▸ BN.out) hbl)
    clear hbl
    have cX0 := MX.out.c0
    have cX1 := MX.out.c1
    have cY0 := MY.out.c0
    have cY1 := MY.out.c1
    go_wp2_with fail
    refine (HG.out _).mono ?_
    rintro e w7 ⟨rfl, hbl⟩
    clear cX0 cX1 cY0 cY1
    replace MX := Lib.hid (MX.out.keep hbl)
    replace MY := Lib.hid (MY.out.keep hbl)
    replace BN := Lib.hid (hn ▸ below_next (hn ▸ BN.out) hbl)
    clear hbl
    go_wp2_with fail
    refine (awakeL _).mono ?_
    rintro e w8 ⟨rfl, hbl⟩
    replace MX := Lib.hid (MX.out.keep hbl)
    replace MY := Lib.hid (MY.out.keep hbl)
    replace BN := Lib.hid (hn ▸ below_next (hn ▸ BN.out) hbl)
    clear hbl
    go_wp2_with fail
    go_ret
    subst hn
    exact ⟨rfl, BN.out⟩
theorem order_cmp (u v : BitVec 128) : cmpOf v u = -cmpOf u v ∧ (-1 ≤ cmpOf u v ∧ cmpOf u v ≤ 1) ∧ (u.slt v = true → v.slt u = false) := by
  refine ⟨?_, ?_, ?_⟩
  · rw [cmpOf_eq, cmpOf_eq]; unfold cmpI
    split <;> split <;> (try split) <;> omega
  · unfold cmpOf; split <;> (try split) <;> omega
  · unfold BitVec.slt
    simp only [decide_eq_true_eq, decide_eq_false_iff_not]
    omega
theorem order_sign (u : BitVec 128) : cmpOf u 0 = if u.getLsbD 127 = true then -1 else if (hiOf u == 0 && (loOf u : Int) == 0) = true then 0 else 1 := by
  rw [show u.getLsbD 127 = decide (u.toInt < 0) by rw [← BitVec.msb_eq_toInt, BitVec.msb_eq_getLsbD_last], cmpOf_eq, show (0 : BitVec 128).toInt = 0 from rfl, zero_iffO]
  unfold cmpI
  simp only [decide_eq_true_eq]
  split <;> (try split) <;> omega
theorem order_rows (u : BitVec 128) (w : World) : (Op.equalIn 10000 25 (.agg (row (ofI (wrap64 (loOf u))))) (.agg (row u))).run Try.prog w = .ok (fits u.toInt) w := by
  rw [equal_row, ← num_same, (int_facts u).2.1]
theorem order_same (u : BitVec 128) (w : World) : (Op.equalIn 10000 25 (.agg (row u)) (.agg (row u))).run Try.prog w = .ok true w := by
  have := equal_row u u w
  simpa only [decide_true] using this
theorem order_int (u : BitVec 128) (h : fits u.toInt = true) (w : World) : Calls Try.prog 20 #[.int .i64 u.toInt] w fun e w' => e = .returned (.agg (row u)) ∧ Below w.heap.size w w' := by
  have h1 := fits_iff.1 h
  have := intW u.toInt h1.1 h1.2 w
  rw [BitVec.ofInt_toInt] at this
  exact this
theorem orderL (u v : BitVec 128) (w : World) :
    Calls Try.prog 5 #[(.agg #[.int .i64 (hiOf (u)), .int .u64 (loOf (u))]), (.agg #[.int .i64 (hiOf (v)), .int .u64 (loOf (v))])] w fun e w' => e = .returned (.bool true) ∧ Below w.heap.size w w' := by
  obtain ⟨k1, k2, k3⟩ := order_cmp u v
  have HC2 := cmp_c v u
  rw [k1] at HC2
  exact order_walk _ _ _ _ _ _ _ _ _ _ _ _ _ _ w (Lib.hid (bitsW u)) (Lib.hid (bitsW v)) (Lib.hid ⟨row_size _, row_one _, row_size _, row_one _⟩) (Lib.hid (less_any u v)) (Lib.hid (less_any v u)) (Lib.hid (cmp_c u v)) (Lib.hid HC2)
    (Lib.hid (sign_c u)) (Lib.hid (int_c u)) (Lib.hid (intI _ (int_facts u).1)) (Lib.hid (order_rows u)) (Lib.hid (order_same u)) (Lib.hid (order_int u)) (Lib.hid (row_at u 127 (by decide))) k2 (Lib.hid k3) (Lib.hid rfl) (Lib.hid (order_sign u))
end Go.Proofs.Ytgkgdkdendmfnaa
