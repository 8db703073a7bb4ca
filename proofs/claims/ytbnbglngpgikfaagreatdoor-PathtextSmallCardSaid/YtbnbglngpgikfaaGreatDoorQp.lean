/- Layer 15: package pathtext: the text of a path. -/
import Derived.Test.YtbnbglngpgikfaaGreatDoorQo
import Derived.Test.YtbnbglngpgikfaaGreatDoorQg
namespace Go.Proofs.YtbnbglngpgikfaaGreatDoor
open Go.RowKit Go.Shelf
attribute [local go_sem] Oper.semAt_some
def ptW (p : Pt) : List Wd := [textT p.1, textT p.2]
def segB (s : Sg) : List Wd := [letC false s.k] :: (s.pts.take (needI s.k)).flatMap ptW
theorem segW_big (e : Pt) (s : Sg) : segW false e s = segB s := by
  have hn := needI_le s.k
  have z : ∀ x : Int, x - 0 = x := fun x => by omega
  unfold segW segB relL fP Sg.pts
  rcases (by omega : needI s.k = 0 ∨ needI s.k = 1 ∨ needI s.k = 2 ∨ needI s.k = 3) with h | h | h | h <;> simp [h, ptW, z]
theorem pathW_big : ∀ (l : List Sg) (st : Rs), pathW false st l = l.flatMap segB
  | [], _ => rfl
  | s :: l, st => by rw [pathW, segW_big, pathW_big l, List.flatMap_cons]
theorem lens_of (l : List Wd) (m : Nat) (h : ∀ w ∈ l, w.length ≤ m) : (joinW l).length ≤ l.length * (m + 1) := by
  have hs : ∀ r : List Wd, (∀ w ∈ r, w.length ≤ m) → (spaced r).length ≤ r.length * (m + 1) := by
    intro r
    induction r with
    | nil => intro _; simp [spaced]
    | cons w r ih =>
      intro h
      have h1 := h w (List.mem_cons_self ..)
      have h2 := ih (fun x hx => h x (List.mem_cons_of_mem _ hx))
      rw [spaced, List.length_cons, List.length_append, List.length_cons, Nat.add_mul]
      omega
  cases l with
  | nil => simp [joinW]
  | cons w r =>
    have h1 := h w (List.mem_cons_self ..)
    have h2 := hs r (fun x hx => h x (List.mem_cons_of_mem _ hx))
    rw [joinW, List.length_append, List.length_cons, Nat.add_mul]
    omega
theorem join_is (l : List Wd) : Lib.join l [32] = joinW l := by
  cases l with
  | nil => rfl
  | cons w r =>
    rw [Lib.join_cons, joinW]
    congr 1
    induction r with
    | nil => rfl
    | cons x r ih => rw [spaced, ← ih]; simp [Lib.joinTail]
theorem textT_le (a : Int) (h : inB a = true) : (textT a).length ≤ 60 := by
  have := inB_iff.1 h
  unfold textT
  split
  · have h1 := itoa_len (-a / 256) (by omega) (by omega)
    have h2 := partT_len (-a % 256) (by omega) (by omega)
    rw [List.length_cons, List.length_append]
    omega
  · have h1 := itoa_len (a / 256) (by omega) (by omega)
    have h2 := partT_len (a % 256) (by omega) (by omega)
    rw [List.length_append]
    omega
theorem goI_at : ∀ (l : List Sg) (x : Sg) (k : Nat) (s : Sg), goI x l = 0 → l[k]? = some s → ∃ y, faultI y s = 0
  | [], _, _, _, _, h => by cases h
  | t :: l, x, 0, s, hg, h => by
    obtain rfl : t = s := by simpa using h
    rw [goI] at hg
    split at hg
    · exact ⟨x, by assumption⟩
    · rename_i hf; exact absurd hg hf
  | t :: l, x, k + 1, s, hg, h => by
    rw [goI] at hg
    split at hg
    · exact goI_at l t k s hg (by simpa using h)
    · rename_i hf; exact absurd hg hf
/-- What a right path's segments are. -/
structure SegOk (s : Sg) : Prop where
  kind : isKindB s.k = true
  pts : ∀ p ∈ s.pts.take (needI s.k), room p.1 = true ∧ room p.2 = true
theorem seg_ok {l : List Sg} (h : checkI l = 0) {k : Nat} {s : Sg} (hk : l[k]? = some s) : SegOk s := by
  obtain ⟨y, hf⟩ := goI_at l shut0 k s (check_parts h).2 hk
  obtain ⟨h1, _, h2⟩ := fault_parts hf
  obtain ⟨_, h3⟩ := rooms_of h2
  exact ⟨h1, fun p hp => by have := h3 p hp; simpa [roomP] using this⟩
theorem letter_cut {k : Int} (hk : isKindB k = true) (w : World) : (Instr.sliceAt 9 (.string ⟨#[77, 76, 81, 67, 90]⟩) (some (.int .i64 (k - 1))) (some (.int .i64 k)) none).run Tryz.prog w = .ok (.string ⟨[letC false k].toArray⟩) w := by
  rcases isKind_cases hk with rfl | rfl | rfl | rfl | rfl
  · exact slice_str [77, 76, 81, 67, 90] 0 1 (by decide) (by decide) w
  · exact slice_str [77, 76, 81, 67, 90] 1 2 (by decide) (by decide) w
  · exact slice_str [77, 76, 81, 67, 90] 2 3 (by decide) (by decide) w
  · exact slice_str [77, 76, 81, 67, 90] 3 4 (by decide) (by decide) w
  · exact slice_str [77, 76, 81, 67, 90] 4 5 (by decide) (by decide) w
theorem segB_len (s : Sg) : (segB s).length ≤ 7 := by
  have hn := needI_le s.k
  unfold segB Sg.pts
  rcases (by omega : needI s.k = 0 ∨ needI s.k = 1 ∨ needI s.k = 2 ∨ needI s.k = 3) with h | h | h | h <;> simp [h, ptW]
theorem segs_len : ∀ l : List Sg, (l.flatMap segB).length ≤ l.length * 7
  | [] => by simp
  | s :: l => by have := segs_len l; have := segB_len s; rw [List.flatMap_cons, List.length_append, List.length_cons]; omega
theorem ptW_len : ∀ l : List Pt, (l.flatMap ptW).length = l.length * 2
  | [] => rfl
  | p :: l => by rw [List.flatMap_cons, List.length_append, ptW_len l, List.length_cons]; simp [ptW]; omega
theorem segs_text {l : List Sg} (h : checkI l = 0) : ∀ w ∈ l.flatMap segB, w.length ≤ 60 := fun w hw => by
  obtain ⟨s, hs, hw⟩ := List.mem_flatMap.1 hw
  obtain ⟨k, hk⟩ := List.getElem?_of_mem hs
  have ho := seg_ok h hk
  unfold segB at hw
  rcases List.mem_cons.1 hw with rfl | hw
  · exact (by decide : 1 ≤ 60)
  · obtain ⟨p, hp, hw⟩ := List.mem_flatMap.1 hw
    have := ho.pts p hp
    simp only [ptW, List.mem_cons, List.not_mem_nil, or_false] at hw
    rcases hw with rfl | rfl
    · exact textT_le _ (by rw [in_room]; exact this.1)
    · exact textT_le _ (by rw [in_room]; exact this.2)
theorem join_c (v : Value) (E : List Wd) (w : World) (hl : E.length ≤ 100000) (ht : ∀ x ∈ E, x.length ≤ 60) (row : RowW w v E) : Calls Tryz.prog 24 #[v, .string ⟨#[32]⟩] w fun e w' => e = .returned (.string ⟨(joinW E).toArray⟩) ∧ Below w.heap.size w w' := by
  rcases row with ⟨rfl, rfl⟩ | ⟨g, o, c, rfl, hg, hc, hcells⟩
  · refine (Tryz.strings_Join_none none 0 ⟨#[32]⟩ w).mono fun e w' ⟨he, hw⟩ => ⟨he, hw ▸ Below.refl _ _⟩
  · have hlen : (joinW E).length ≤ 140737488355328 := by
      have h1 := lens_of E 60 ht
      have h2 : E.length * (60 + 1) ≤ 100000 * 61 := Nat.mul_le_mul_right _ hl
      omega
    have e1 : (E.map fun x => (⟨x.toArray⟩ : ByteArray)).map (fun x => x.data.toList) = E := by
      rw [List.map_map]; exact List.map_id _
    have e2 : Lib.join ((E.map fun x => (⟨x.toArray⟩ : ByteArray)).map (fun x => x.data.toList)) (⟨#[32]⟩ : ByteArray).data.toList = joinW E := by rw [e1]; exact join_is E
    have h := Tryz.strings_Join g o c (E.map fun x => (⟨x.toArray⟩ : ByteArray)) ⟨#[32]⟩ w (fun j x hx => by
      rw [List.getElem?_map] at hx
      obtain ⟨y, hy, rfl⟩ := Option.map_eq_some_iff.1 hx
      exact hcells j y hy) hg (by simp; omega) (by simpa using hc) (by rw [e2]; exact hlen)
    rw [e2, List.length_map] at h
    exact h
theorem take_flat {l : List Sg} {k : Nat} {s : Sg} (h : l[k]? = some s) : (l.take (k + 1)).flatMap segB = (l.take k).flatMap segB ++ segB s := by
  rw [List.take_add_one, h, List.flatMap_append]
  simp
theorem Moved.trans {w w1 : World} {v v1 v2 : Value} (h : Moved w v v1) (k : Moved w1 v1 v2) (hw : w.heap.size ≤ w1.heap.size) : Moved w v v2 := by
  rcases k with e | ⟨q, e, hq⟩
  · rcases h with e2 | ⟨q, e2, hq⟩
    · exact .inl (e.trans e2)
    · exact .inr ⟨q, e.trans e2, hq⟩
  · exact .inr ⟨q, e, Nat.le_trans hw hq⟩
/-- Within Show's inner loop: the words so far, the segment's own block. -/
structure ShS (N g : Nat) (w : World) (v : Value) (E : List Wd) (s : Sg) (A : World) : Prop where
  row : OwnW A N v E
  below : Below N w A
  seg : Blk A g 53 s.cells
  hN : N ≤ A.heap.size
theorem ShS.grow {N g : Nat} {w : World} {v : Value} {E : List Wd} {s : Sg} {A B : World} (h : ShS N g w v E s A) (hb : Below A.heap.size A B) : ShS N g w v E s B :=
  ⟨h.row.grow hb, h.below.trans (hb.mono h.hN), h.seg.grow hb, Nat.le_trans h.hN hb.size⟩
theorem ShS.app {N g : Nat} {w : World} {v v' : Value} {E E' : List Wd} {s : Sg} {A B : World} (h : ShS N g w v E s A) (ho : OwnW B N v' E') (hg : A.grownBy B v.ownBlock) : ShS N g w v' E' s B :=
  ⟨ho, own_below h.row hg h.below (Nat.le_refl _) h.hN, (Keep.of_grown hg).blk h.seg (owns_off h.row h.seg (by decide)), Nat.le_trans h.hN hg.size⟩
set_option maxHeartbeats 4000000 in
set_option maxRecDepth 100000 in
theorem show_no (u : Value) (l : List Sg) (w : World) (hr : Rdd w) (row : RowS w u l) (hc : checkI l ≠ 0) : Calls Tryz.prog 9 #[u] w fun e w' => e = .returned (.tuple #[.string ⟨#[]⟩, .int .i64 (checkI l)]) ∧ Below w.heap.size w w' := by
  have HC := Lib.hid (check_c u l w hr.1 row)
  obtain ⟨a, c, rfl⟩ := row.shape
  obtain ⟨z, hz⟩ : ∃ z, checkI l = z := ⟨_, rfl⟩
  rw [hz] at HC hc ⊢
  have hne : (z != 0) = true := by simpa using hc
  clear hr row hc hz
  go_enter Tryz.func9, Tryz.ntmps9
  go_wp2_with fail
  refine HC.out.mono ?_
  rintro e w1 ⟨rfl, hb⟩
  have HB := Lib.hid hb
  clear hb
  go_wp2_with fail
  go_ret2
  exact ⟨rfl, HB.out⟩
set_option maxHeartbeats 4000000 in
set_option maxRecDepth 100000 in
theorem show_yes (u : Value) (l : List Sg) (w : World) (hr : Rdd w) (row : RowS w u l) (hc : checkI l = 0) : Calls Tryz.prog 9 #[u] w fun e w' => e = .returned (.tuple #[.string ⟨(showT l).toArray⟩, .int .i64 0]) ∧ Below w.heap.size w w' := by
  have HC := Lib.hid (check_c u l w hr.1 row)
  rw [hc] at HC
  have HST : Hid (showT l = joinW (l.flatMap segB)) := by unfold Hid showT; rw [pathW_big]
  rw [HST.out]
  obtain ⟨ao, c, rfl⟩ := row.shape
  obtain ⟨N, hN⟩ : ∃ N, w.heap.size = N := ⟨_, rfl⟩
  obtain ⟨n, hn⟩ : ∃ n, l.length = n := ⟨_, rfl⟩
  have HOK := Lib.hid hc
  have HEV : Hid (Ev N w) := by rw [← hN]; exact ev_of hr
  have HROW := Lib.hid row
  have HLN : Hid (l.length = n ∧ n ≤ 4096) := ⟨hn, by have := (check_parts hc).1; omega⟩
  have HN := Lib.hid hN
  rw [hn] at HC HROW ⊢
  rw [hN]
  clear hr row hc hN hn
  go_enter Tryz.func9, Tryz.ntmps9
  go_wp2_with fail
  refine HC.out.mono ?_
  rintro e w1 ⟨rfl, hb⟩
  have HB1 : Hid (Below N w w1) := by rw [← HN.out]; exact hb
  clear hb HC
  have hn63 : (n : Int) ≤ 4096 := by have := HLN.out; omega
  go_wp2_with fail
  go_loopw [5, 17] (fun u i wr => ∃ (k : Nat), k ≤ n ∧ i = .int .i64 (k : Int) ∧ Hid (OwnW wr N u ((l.take k).flatMap segB) ∧ Below N w wr)) (fun _ i _ => n - (intOf i).toNat)
  case atStart => exact ⟨0, by omega, rfl, OwnW.nil _ _, HB1.out⟩
  case round =>
    obtain ⟨k, hk, rfl, hw⟩ := hrel
    obtain ⟨w2, rfl⟩ : ∃ x, x = wr := ⟨_, rfl⟩
    clear HB1
    by_cases hlt : k < n
    · have hd : decide ((k : Int) < (n : Int)) = true := by simp; omega
      obtain ⟨b, o, rfl, hbs, hpa⟩ := RowS.addr HROW.out (k := k) (by rw [HLN.out.1]; exact hlt)
      obtain ⟨s, hq⟩ : ∃ p, l[k]? = some p := ⟨_, List.getElem?_eq_getElem (by rw [HLN.out.1]; exact hlt)⟩
      have hs := hpa.on hw.out.2 (by rw [← HN.out]; exact hbs)
      have c0 := hs.c0 hq
      have c1 := hs.c1 hq
      have c2 := hs.c2 hq
      have c3 := hs.c3 hq
      have c4 := hs.c4 hq
      have c5 := hs.c5 hq
      have c6 := hs.c6 hq
      have HQ := Lib.hid hq
      have hso := seg_ok HOK.out hq
      have HSO := Lib.hid hso
      have hcut := fun W => letter_cut hso.kind W
      obtain ⟨k1, k5⟩ : 1 ≤ s.k ∧ s.k ≤ 5 := by have := isKind_cases hso.kind; omega
      obtain ⟨E0, hE0⟩ : ∃ E, (l.take k).flatMap segB = E := ⟨_, rfl⟩
      have HE0 := Lib.hid hE0
      have HLE0 : Hid (E0.length + 7 ≤ 1000000) := by
        unfold Hid
        rw [← hE0]
        have h1 := segs_len (l.take k)
        rw [List.length_take] at h1
        have := HLN.out.2
        omega
      rw [hE0] at hw
      have hzN : N ≤ w2.heap.size := by have := hw.out.2.size; have := HN.out; omega
      have SA : Hid (ShS N w2.heap.size w u5 E0 s (w2.alloc (.cells s.cells 53))) := ⟨hw.out.1.grow ((Below.refl _ _).alloc (Nat.le_refl _) _), hw.out.2.alloc hzN _, Blk.new _ _ _, by simp; omega⟩
      have SB : Hid (ShS N w2.heap.size w u5 E0 s ((w2.alloc (.cells s.cells 53)).alloc (.cells #[.string ⟨[letC false s.k].toArray⟩] 9))) := SA.out.grow ((Below.refl _ _).alloc (Nat.le_refl _) _)
      have HX1 : Hid (∀ j u, (strV [[letC false s.k]])[j]? = some u → ((w2.alloc (.cells s.cells 53)).alloc (.cells #[.string ⟨[letC false s.k].toArray⟩] 9)).cell? ((⟨w2.heap.size + 1, 0, none⟩ : Addr).add j) = some u) := str_src (Y := [[letC false s.k]]) (Blk.newAt _ _ _ (by simp))
      obtain ⟨va, vc, rfl⟩ := hw.out.1.shape
      obtain ⟨vn, hvn⟩ : ∃ m, E0.length = m := ⟨_, rfl⟩
      rw [hvn] at SA SB hw ⊢
      simp only [Sg.cells, seven] at SA SB HX1
      clear hpa hq hbs hs hso hE0 hvn
      go_wp2_with (at_builtin; refine wpList_app_strs rfl _ _ 42 rfl Tryz.underlying42 N _ E0 rfl SB.out.row ⟨w2.heap.size + 1, 0, none⟩ 1 1 [[letC false s.k]] rfl rfl HX1.out ?hl1 SB.out.hN ?_)
      case hl1 => have := HLE0.out; simp; omega
      intro v3 w3 ho hg hm
      have S3 := Lib.hid (SB.out.app ho hg)
      obtain ⟨E1, hE1⟩ : ∃ E, E0 ++ [[letC false s.k]] = E := ⟨_, rfl⟩
      rw [hE1] at S3
      have HE1 := Lib.hid hE1
      obtain ⟨m, hm2⟩ : ∃ m, needI s.k = m := ⟨_, rfl⟩
      have HM := Lib.hid hm2
      have hm3 : m ≤ 3 := by rw [← hm2]; exact needI_le s.k
      have HND := Lib.hid (need_c s.k w3 (HEV.out.on S3.out.below).at.1)
      rw [hm2] at HND
      have ck : w3.cell? ⟨w2.heap.size, 0, none⟩ = some (.int .i64 s.k) := S3.out.seg.s0
      obtain ⟨v3a, v3c, hv3⟩ := S3.out.row.shape
      obtain ⟨v3n, hv3n⟩ : ∃ m, E1.length = m := ⟨_, rfl⟩
      rw [hv3n] at hv3
      subst hv3
      have SL := fun W g o => slice_to W g o m hm3
      obtain ⟨P, hP⟩ : ∃ P, s.pts.take m = P := ⟨_, rfl⟩
      have HP := Lib.hid hP
      have HPL : Hid (P.length = m) := by unfold Hid; rw [← hP, List.length_take]; simp [Sg.pts]; omega
      have hm63 : (m : Int) ≤ 3 := by omega
      have HLE1 : Hid (E1.length + 6 ≤ 1000000) := by unfold Hid; rw [← hE1]; have := HLE0.out; simp; omega
      clear SA SB HX1 ho hg hm hE1 hm2 hv3n hP c0 c1 c2 c3 c4 c5 c6 hcut
      go_wp2_with fail
      refine HND.out.mono ?_
      rintro e w4 ⟨rfl, rfl⟩
      go_wp2_with fail
      clear ck SL
      go_loopw [5, 36] (fun u i wr => ∃ (j : Nat), j ≤ m ∧ i = .int .i64 (j : Int) ∧ Hid (ShS N w2.heap.size w u (E1 ++ (P.take j).flatMap ptW) s wr)) (fun _ i _ => m - (intOf i).toNat)
      case atStart => exact ⟨0, by omega, rfl, by unfold Hid; simpa using S3.out⟩
      case round =>
        obtain ⟨j, hj, rfl, hx⟩ := hrel
        by_cases hjm : j < m
        · have hd2 : decide ((j : Int) < (m : Int)) = true := by simp; omega
          obtain ⟨⟨px, py⟩, hp⟩ : ∃ p, P[j]? = some p := ⟨_, List.getElem?_eq_getElem (by rw [HPL.out]; exact hjm)⟩
          obtain ⟨q0, q1⟩ := (seven_pts hx.out.seg).take (n := m) j (px, py) (by rw [HP.out]; exact hp)
          simp only at q0 q1
          have HPX : Hid (inB px = true ∧ inB py = true) := by
            have := HSO.out.pts (px, py) (by rw [HM.out, HP.out]; exact List.mem_of_getElem? hp)
            unfold Hid
            rw [in_room, in_room]; exact this
          obtain ⟨E, hE⟩ : ∃ E, E1 ++ (P.take j).flatMap ptW = E := ⟨_, rfl⟩
          have HNX : Hid (E1 ++ (P.take (j + 1)).flatMap ptW = E ++ [textT px, textT py]) := by
            unfold Hid
            rw [List.take_add_one, hp, List.flatMap_append, ← List.append_assoc, hE]
            rfl
          have HLE : Hid (E.length + 2 ≤ 1000000) := by
            unfold Hid
            rw [← hE, List.length_append]
            have h1 := ptW_len (P.take j)
            rw [List.length_take] at h1
            have := HLE1.out
            omega
          rw [hE] at hx
          obtain ⟨va, vc, hva⟩ := hx.out.row.shape
          obtain ⟨vn, hvn⟩ : ∃ m, E.length = m := ⟨_, rfl⟩
          rw [hvn] at hva
          subst hva
          obtain ⟨gp, hgp⟩ : ∃ g, wr.heap.size = g := ⟨_, rfl⟩
          have HJM := Lib.hid hjm
          clear hE hvn hp
          go_upto_region 12 with fail
          obtain ⟨w5, hw5⟩ : ∃ W, wr.alloc (.cells #[.int .i64 px, .int .i64 py] 50) = W := ⟨_, rfl⟩
          rw [hw5]
          have HS5 : Hid (ShS N w2.heap.size w (.slice va vn vc) E s w5.drew ∧ Blk w5.drew gp 50 #[.int .i64 px, .int .i64 py] ∧ w5.heap.size ≤ w5.drew.heap.size) := by
            rw [← hw5]
            exact ⟨(hx.out.grow ((Below.refl _ _).alloc (Nat.le_refl _) _)).grow (below_drewN (Below.refl _ _) 1), Blk.newAt _ _ _ hgp, Nat.le_refl _⟩
          clear hw5 q0 q1
          refine wp_region_put2 (by kernel_rfl) (by kernel_rfl) (by kernel_rfl) (fun b' vs w' => (b' 0 = true → vs 0 = .slice va vn vc) ∧ (b' 1 = true → vs 1 = .pointer (some ⟨gp, 0, none⟩)) ∧ (b' 2 = true → vs 2 = .int .i64 px) ∧ (b' 3 = true → vs 3 = .string ⟨(textT px).toArray⟩) ∧ (b' 4 = true → vs 4 = .pointer (some ⟨gp, 1, none⟩)) ∧ (b' 5 = true → vs 5 = .int .i64 py) ∧ (b' 6 = true → vs 6 = .string ⟨(textT py).toArray⟩) ∧ (b' 7 = true → b' 8 = false → Hid (∃ q, (vs 7) = .slice (some ⟨q, 0, none⟩) 2 2 ∧ Blk w' q 9 (strV [textT px, textT py]).toArray)) ∧ (b' 8 = false → Hid (ShS N w2.heap.size w (.slice va vn vc) E s w' ∧ Blk w' gp 50 #[.int .i64 px, .int .i64 py] ∧ w5.heap.size ≤ w'.heap.size)) ∧ (b' 8 = true → Hid (∃ wq, ShS N w2.heap.size w (.slice va vn vc) E s wq ∧ OwnW w' N (vs 8) (E ++ [textT px, textT py]) ∧ wq.grownBy w' (Value.slice va vn vc).ownBlock)) ∧ (b' 9 = true → vs 9 = vs 8) ∧ (b' 7 = true → b' 3 = true) ∧ (b' 3 = true → b' 2 = true) ∧ (b' 7 = true → b' 6 = true) ∧ (b' 6 = true → b' 5 = true) ∧ (b' 8 = true → b' 0 = true) ∧ (b' 8 = true → b' 2 = true) ∧ (b' 8 = true → b' 3 = true) ∧ (b' 8 = true → b' 5 = true) ∧ (b' 8 = true → b' 6 = true) ∧ (b' 8 = true → b' 7 = true) ∧ (b' 9 = true → b' 8 = true) ∧ (b' 9 = false → vs 9 = .slice va vn vc)) ?_ ?_ ?_
          · intro vs hvs
            exact ⟨fun h => Bool.noConfusion h, fun h => Bool.noConfusion h, fun h => Bool.noConfusion h, fun h => Bool.noConfusion h, fun h => Bool.noConfusion h, fun h => Bool.noConfusion h, fun h => Bool.noConfusion h, fun h => Bool.noConfusion h, fun _ => Lib.hid (HS5.out), fun h => Bool.noConfusion h, fun h => Bool.noConfusion h, fun h => Bool.noConfusion h, fun h => Bool.noConfusion h, fun h => Bool.noConfusion h, fun h => Bool.noConfusion h, fun h => Bool.noConfusion h, fun h => Bool.noConfusion h, fun h => Bool.noConfusion h, fun h => Bool.noConfusion h, fun h => Bool.noConfusion h, fun h => Bool.noConfusion h, fun h => Bool.noConfusion h, fun _ => hvs 9 _ 5 rfl rfl⟩
          · rintro b' vs w' i op hi hun hall ⟨h0, h1, h2, h3, h4, h5, h6, y7, hF, yA, t9, hE7_3, hE3_2, hE7_6, hE6_5, hW0, hW2, hW3, hW5, hW6, hW7, hT9, o9⟩
            have hil : i < 10 := (List.getElem?_eq_some_iff.1 hi).1
            rcases i with _ | _ | _ | _ | _ | _ | _ | _ | _ | _ | i
            · obtain rfl := Option.some.inj hi
              clear hi hil
              have na : b' 8 = false := by
                cases hz : b' 8 with
                | false => rfl
                | true => exact absurd (hW0 hz) (by rw [hun]; decide)
              have hS := hF na
              have n9 : b' 9 = false := by
                cases hz : b' 9 with
                | false => rfl
                | true => exact absurd (hT9 hz) (by rw [na]; decide)
              have z9 := o9 n9
              refine wpOp_step rfl (fun K hK => ?_)
              have HKK := Lib.hid hK; clear hK
              simp only [putAll, Act.put, List.setIfInBounds_toArray, List.set_cons_zero, List.set_cons_succ]
              go_simp
              exact HKK.out _ _ ⟨_, by simp only [putAll, Act.put, List.setIfInBounds_toArray, List.set_cons_zero, List.set_cons_succ, z9] <;> rfl, fun _ => rfl, h1, h2, h3, h4, h5, h6, y7, hF, yA, t9, hE7_3, hE3_2, hE7_6, hE6_5, fun _ => rfl, hW2, hW3, hW5, hW6, hW7, hT9, o9⟩
            · obtain rfl := Option.some.inj hi
              clear hi hil
              refine wpOp_step rfl (fun K hK => ?_)
              have HKK := Lib.hid hK; clear hK
              simp only [putAll, Act.put, List.setIfInBounds_toArray, List.set_cons_zero, List.set_cons_succ]
              go_simp
              exact HKK.out _ _ ⟨_, by simp only [putAll, Act.put, List.setIfInBounds_toArray, List.set_cons_zero, List.set_cons_succ] <;> rfl, h0, fun _ => rfl, h2, h3, h4, h5, h6, y7, hF, yA, t9, hE7_3, hE3_2, hE7_6, hE6_5, hW0, hW2, hW3, hW5, hW6, hW7, hT9, o9⟩
            · obtain rfl := Option.some.inj hi
              clear hi hil
              have d1 := h1 (hall ⟨1, .data⟩ (by simp) rfl)
              have na : b' 8 = false := by
                cases hz : b' 8 with
                | false => rfl
                | true => exact absurd (hW2 hz) (by rw [hun]; decide)
              have hS := hF na
              have k0 := hS.out.2.1.cell 0
              simp only [List.getElem?_toArray, List.getElem?_cons_zero] at k0
              refine wpOp_step rfl (fun K hK => ?_)
              have HKK := Lib.hid hK; clear hK
              simp only [putAll, Act.put, List.setIfInBounds_toArray, List.set_cons_zero, List.set_cons_succ]
              go_simp
              exact HKK.out _ _ ⟨_, by simp only [putAll, Act.put, List.setIfInBounds_toArray, List.set_cons_zero, List.set_cons_succ, d1] <;> rfl, h0, h1, fun _ => rfl, h3, h4, h5, h6, y7, hF, yA, t9, hE7_3, fun _ => rfl, hE7_6, hE6_5, hW0, fun _ => rfl, hW3, hW5, hW6, hW7, hT9, o9⟩
            · obtain rfl := Option.some.inj hi
              clear hi hil
              have d2 := h2 (hall ⟨2, .data⟩ (by simp) rfl)
              have na : b' 8 = false := by
                cases hz : b' 8 with
                | false => rfl
                | true => exact absurd (hW3 hz) (by rw [hun]; decide)
              have hS := hF na
              refine wpOp_step rfl (fun K hK => ?_)
              have HKK := Lib.hid hK; clear hK
              simp only [putAll, Act.put, List.setIfInBounds_toArray, List.set_cons_zero, List.set_cons_succ]
              go_simp
              refine (text_in px w' HPX.out.1 (HEV.out.on hS.out.1.below).at.2.rd).mono ?_
              rintro e w9 ⟨rfl, hb2⟩
              exact HKK.out _ _ ⟨_, by simp only [putAll, Act.put, List.setIfInBounds_toArray, List.set_cons_zero, List.set_cons_succ, d2] <;> rfl, h0, h1, h2, fun _ => rfl, h4, h5, h6, fun h ha => Lib.hid (let ⟨q, e, hq⟩ := (y7 h ha).out; ⟨q, e, hq.grow hb2⟩), fun _ => Lib.hid (⟨hS.out.1.grow hb2, hS.out.2.1.grow hb2, Nat.le_trans hS.out.2.2 hb2.size⟩), fun h => absurd (show b' 8 = true from h) (by rw [na]; decide), t9, fun _ => rfl, fun _ => hall ⟨2, .data⟩ (by simp) rfl, hE7_6, hE6_5, hW0, hW2, fun _ => rfl, hW5, hW6, hW7, hT9, o9⟩
            · obtain rfl := Option.some.inj hi
              clear hi hil
              refine wpOp_step rfl (fun K hK => ?_)
              have HKK := Lib.hid hK; clear hK
              simp only [putAll, Act.put, List.setIfInBounds_toArray, List.set_cons_zero, List.set_cons_succ]
              go_simp
              exact HKK.out _ _ ⟨_, by simp only [putAll, Act.put, List.setIfInBounds_toArray, List.set_cons_zero, List.set_cons_succ] <;> rfl, h0, h1, h2, h3, fun _ => rfl, h5, h6, y7, hF, yA, t9, hE7_3, hE3_2, hE7_6, hE6_5, hW0, hW2, hW3, hW5, hW6, hW7, hT9, o9⟩
            · obtain rfl := Option.some.inj hi
              clear hi hil
              have d4 := h4 (hall ⟨4, .data⟩ (by simp) rfl)
              have na : b' 8 = false := by
                cases hz : b' 8 with
                | false => rfl
                | true => exact absurd (hW5 hz) (by rw [hun]; decide)
              have hS := hF na
              have k1 := hS.out.2.1.cell 1
              simp only [List.getElem?_toArray, List.getElem?_cons_zero, List.getElem?_cons_succ] at k1
              refine wpOp_step rfl (fun K hK => ?_)
              have HKK := Lib.hid hK; clear hK
              simp only [putAll, Act.put, List.setIfInBounds_toArray, List.set_cons_zero, List.set_cons_succ]
              go_simp
              exact HKK.out _ _ ⟨_, by simp only [putAll, Act.put, List.setIfInBounds_toArray, List.set_cons_zero, List.set_cons_succ, d4] <;> rfl, h0, h1, h2, h3, h4, fun _ => rfl, h6, y7, hF, yA, t9, hE7_3, hE3_2, hE7_6, fun _ => rfl, hW0, hW2, hW3, fun _ => rfl, hW6, hW7, hT9, o9⟩
            · obtain rfl := Option.some.inj hi
              clear hi hil
              have d5 := h5 (hall ⟨5, .data⟩ (by simp) rfl)
              have na : b' 8 = false := by
                cases hz : b' 8 with
                | false => rfl
                | true => exact absurd (hW6 hz) (by rw [hun]; decide)
              have hS := hF na
              refine wpOp_step rfl (fun K hK => ?_)
              have HKK := Lib.hid hK; clear hK
              simp only [putAll, Act.put, List.setIfInBounds_toArray, List.set_cons_zero, List.set_cons_succ]
              go_simp
              refine (text_in py w' HPX.out.2 (HEV.out.on hS.out.1.below).at.2.rd).mono ?_
              rintro e w9 ⟨rfl, hb2⟩
              exact HKK.out _ _ ⟨_, by simp only [putAll, Act.put, List.setIfInBounds_toArray, List.set_cons_zero, List.set_cons_succ, d5] <;> rfl, h0, h1, h2, h3, h4, h5, fun _ => rfl, fun h ha => Lib.hid (let ⟨q, e, hq⟩ := (y7 h ha).out; ⟨q, e, hq.grow hb2⟩), fun _ => Lib.hid (⟨hS.out.1.grow hb2, hS.out.2.1.grow hb2, Nat.le_trans hS.out.2.2 hb2.size⟩), fun h => absurd (show b' 8 = true from h) (by rw [na]; decide), t9, hE7_3, hE3_2, fun _ => rfl, fun _ => hall ⟨5, .data⟩ (by simp) rfl, hW0, hW2, hW3, hW5, fun _ => rfl, hW7, hT9, o9⟩
            · obtain rfl := Option.some.inj hi
              clear hi hil
              have d3 := h3 (hall ⟨3, .data⟩ (by simp) rfl)
              have d6 := h6 (hall ⟨6, .data⟩ (by simp) rfl)
              have na : b' 8 = false := by
                cases hz : b' 8 with
                | false => rfl
                | true => exact absurd (hW7 hz) (by rw [hun]; decide)
              have hS := hF na
              refine wpOp_step rfl (fun K hK => ?_)
              have HKK := Lib.hid hK; clear hK
              simp only [putAll, Act.put, List.setIfInBounds_toArray, List.set_cons_zero, List.set_cons_succ]
              go_simp
              have hb2 : Below w'.heap.size w' (w'.alloc (.cells #[.string ⟨(textT px).toArray⟩, .string ⟨(textT py).toArray⟩] 9)) := (Below.refl _ _).alloc (Nat.le_refl _) _
              exact HKK.out _ _ ⟨_, by simp only [putAll, Act.put, List.setIfInBounds_toArray, List.set_cons_zero, List.set_cons_succ, d3, d6] <;> rfl, h0, h1, h2, h3, h4, h5, h6, fun _ _ => Lib.hid (⟨_, rfl, Blk.new _ _ _⟩), fun _ => Lib.hid (⟨hS.out.1.grow hb2, hS.out.2.1.grow hb2, Nat.le_trans hS.out.2.2 hb2.size⟩), fun h => absurd (show b' 8 = true from h) (by rw [na]; decide), t9, fun _ => hall ⟨3, .data⟩ (by simp) rfl, hE3_2, fun _ => hall ⟨6, .data⟩ (by simp) rfl, hE6_5, hW0, hW2, hW3, hW5, hW6, fun _ => rfl, hT9, o9⟩
            · obtain rfl := Option.some.inj hi
              clear hi hil
              have d0 := h0 (hall ⟨0, .data⟩ (by simp) rfl)
              have hS := hF hun
              have o7 := y7 (hall ⟨7, .data⟩ (by simp) rfl) hun
              obtain ⟨q, e7, hq⟩ := o7.out
              refine wpOp_step rfl (fun K hK => ?_)
              have HKK := Lib.hid hK; clear hK
              simp only [putAll, Act.put, List.setIfInBounds_toArray, List.set_cons_zero, List.set_cons_succ]
              refine (if_pos rfl).mpr (wp_app_strs _ _ 42 rfl Tryz.underlying42 N (.slice va vn vc) E d0 hS.out.1.row ⟨q, 0, none⟩ 2 2 [textT px, textT py] e7 rfl (str_src (Y := [textT px, textT py]) hq) HLE.out hS.out.1.hN ?_)
              intro v' wq2 ho2 hg2 hm2
              exact HKK.out _ _ ⟨_, by simp only [putAll, Act.put, List.setIfInBounds_toArray, List.set_cons_zero, List.set_cons_succ, d0] <;> rfl, h0, h1, h2, h3, h4, h5, h6, fun _ h => Bool.noConfusion h, fun h => Bool.noConfusion h, fun _ => Lib.hid (⟨_, hS.out.1, ho2, hg2⟩), fun h => absurd (hT9 (show b' 9 = true from h)) (by rw [hun]; decide), hE7_3, hE3_2, hE7_6, hE6_5, fun _ => hall ⟨0, .data⟩ (by simp) rfl, fun _ => hE3_2 (hE7_3 (hall ⟨7, .data⟩ (by simp) rfl)), fun _ => hE7_3 (hall ⟨7, .data⟩ (by simp) rfl), fun _ => hE6_5 (hE7_6 (hall ⟨7, .data⟩ (by simp) rfl)), fun _ => hE7_6 (hall ⟨7, .data⟩ (by simp) rfl), fun _ => hall ⟨7, .data⟩ (by simp) rfl, fun _ => rfl, o9⟩
            · obtain rfl := Option.some.inj hi
              clear hi hil
              refine wpOp_step rfl (fun K hK => ?_)
              have HKK := Lib.hid hK; clear hK
              simp only [putAll, Act.put, List.setIfInBounds_toArray, List.set_cons_zero, List.set_cons_succ]
              go_simp
              exact HKK.out _ _ ⟨_, by simp only [putAll, Act.put, List.setIfInBounds_toArray, List.set_cons_zero, List.set_cons_succ] <;> rfl, h0, h1, h2, h3, h4, h5, h6, y7, hF, yA, fun _ => rfl, hE7_3, hE3_2, hE7_6, hE6_5, hW0, hW2, hW3, hW5, hW6, hW7, fun _ => hall ⟨8, .data⟩ (by simp) rfl, fun h => Bool.noConfusion h⟩
            · omega
          · rintro b' vs wz hall ⟨h0, h1, h2, h3, h4, h5, h6, y7, hF, yA, t9, hE7_3, hE3_2, hE7_6, hE6_5, hW0, hW2, hW3, hW5, hW6, hW7, hT9, o9⟩
            have d0 := h0 (hall 0 (by simp))
            have d1 := h1 (hall 1 (by simp))
            have d2 := h2 (hall 2 (by simp))
            have d3 := h3 (hall 3 (by simp))
            have d4 := h4 (hall 4 (by simp))
            have d5 := h5 (hall 5 (by simp))
            have d6 := h6 (hall 6 (by simp))
            have d9 := t9 (hall 9 (by simp))
            have PP := yA (hall 8 (by simp))
            simp only [putAll, Act.put, List.setIfInBounds_toArray, List.set_cons_zero, List.set_cons_succ, d0, d1, d2, d3, d4, d5, d6, d9]
            clear hall h0 d0 h1 d1 h2 d2 h3 d3 h4 d4 h5 d5 h6 d6 y7 hF yA t9 d9 hE7_3 hE3_2 hE7_6 hE6_5 hW0 hW2 hW3 hW5 hW6 hW7 hT9 o9
            generalize vs 7 = vM7 at *
            generalize vs 8 = vM8 at *
            obtain ⟨wq, hS6, ho6, hg6⟩ := PP.out
            have HS7 := Lib.hid (hS6.app ho6 hg6)
            have HO7 := Lib.hid ho6
            clear PP hS6 ho6 hg6
            go_wp2_with fail
            refine ⟨⟨j + 1, by have := HJM.out; omega, by go_num, by rw [HNX.out]; exact HS7.out⟩, by have := HJM.out; simp [intOf]; omega⟩
        · have hd2 : decide ((j : Int) < (m : Int)) = false := by simp; omega
          obtain rfl : j = m := by omega
          have HFIN : Hid ((l.take (k + 1)).flatMap segB = E1 ++ (P.take j).flatMap ptW) := by
            unfold Hid
            rw [take_flat HQ.out, HE0.out, ← HE1.out, segB, HM.out, HP.out, List.take_of_length_le (Nat.le_of_eq HPL.out)]
            simp
          go_wp2_with fail
          exact ⟨⟨k + 1, by omega, by go_num, by rw [HFIN.out]; exact hx.out.row, hx.out.below⟩, by simp [intOf]; omega⟩
    · have hd : decide ((k : Int) < (n : Int)) = false := by simp; omega
      obtain rfl : k = n := by omega
      obtain ⟨W, hW⟩ : ∃ W, (l.take k).flatMap segB = W := ⟨_, rfl⟩
      have HWL : Hid (l.flatMap segB = W) := by unfold Hid; rw [← hW, List.take_of_length_le (Nat.le_of_eq HLN.out.1)]
      rw [hW] at hw
      have HJO := Lib.hid (join_c u5 W w2 (by have := segs_len l; rw [HWL.out] at this; have := HLN.out; omega) (by rw [← HWL.out]; exact segs_text HOK.out) hw.out.1.row)
      obtain ⟨va, vc, hva⟩ := hw.out.1.shape
      obtain ⟨vn, hvn⟩ : ∃ m, W.length = m := ⟨_, rfl⟩
      rw [hvn] at hva
      subst hva
      clear hW hvn
      go_wp2_with fail
      refine HJO.out.mono ?_
      rintro e w6 ⟨rfl, hb6⟩
      have HB6 := Lib.hid hb6
      clear hb6
      go_wp2_with fail
      go_ret2
      exact ⟨by rw [HWL.out]; rfl, hw.out.2.trans (HB6.out.mono (by have := hw.out.2.size; have := HN.out; omega))⟩
end Go.Proofs.YtbnbglngpgikfaaGreatDoor
