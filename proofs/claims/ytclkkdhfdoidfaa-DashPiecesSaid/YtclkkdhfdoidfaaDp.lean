/- Layer 9: the document's pieces of a way. -/
import Derived.Test.YtclkkdhfdoidfaaDo
import Derived.Test.YtclkkdhfdoidfaaDq
namespace Go.Proofs.Ytclkkdhfdoidfaa
open Go.RowKit
theorem ownI_at {w : World} {base g k cap : Nat} {E : List Int} (h : OwnI w base (.slice (some ⟨g, 0, none⟩) k cap) E) {i : Nat} {x : Int} (hx : E[i]? = some x) : w.cell? ⟨g, i, none⟩ = some (.int .i64 x) := by
  rcases ownI_some h with ⟨e, _⟩ | ⟨g2, c2, e, _, _, hc⟩
  · cases e
  · cases e
    have := hc i x hx
    rwa [Nat.zero_add] at this
theorem OwnI.made1 (w : World) (base : Nat) (hb : base ≤ w.heap.size) (x : Int) : OwnI (w.alloc (.cells #[.int .i64 x] 3)) base (.slice (some ⟨w.heap.size, 0, none⟩) 1 1) [x] :=
  ⟨rfl, .inr ⟨w.heap.size, 1, _, rfl, hb, Blk.new _ _ _, Nat.le_refl _, by unfold maxLen; omega, rfl, rfl⟩⟩
theorem ownI_one {w : World} {base : Nat} {v : Value} {x : Int} (h : OwnI w base v [x]) : ∃ g cap, v = .slice (some ⟨g, 0, none⟩) 1 cap ∧ ∀ j u, (intsV [x])[j]? = some u → w.cell? ((⟨g, 0, none⟩ : Addr).add j) = some u := by
  rcases ownI_some h with ⟨_, e⟩ | ⟨g, cap, rfl, _, _, hc⟩
  · cases e
  · refine ⟨g, cap, rfl, fun j u hu => ?_⟩
    rw [List.getElem?_map] at hu
    cases he : [x][j]? with
    | none => rw [he] at hu; cases hu
    | some y => rw [he] at hu; cases hu; rw [Addr.add_lit]; exact hc j y he
theorem ownI_shape {w : World} {base : Nat} {v : Value} {E : List Int} (h : OwnI w base v E) (h0 : 0 < E.length) : ∃ g cap, v = .slice (some ⟨g, 0, none⟩) E.length cap ∧ base ≤ g ∧ g < w.heap.size := by
  rcases ownI_some h with ⟨_, rfl⟩ | ⟨g, cap, rfl, hb, hg, _⟩
  · simp at h0
  · exact ⟨g, cap, rfl, hb, hg⟩
theorem par_even {k : Nat} (h : k % 2 = 0) : ((k : Int).tmod 2 == 0) = true := by rw [Int.tmod_eq_emod_of_nonneg (by omega)]; simp; omega
theorem par_odd {k : Nat} (h : ¬ k % 2 = 0) : ((k : Int).tmod 2 == 0) = false := by rw [Int.tmod_eq_emod_of_nonneg (by omega)]; simp; omega
theorem par_even3 {k : Nat} (h : k % 2 = 0) : (k : Int) % 2 = 0 := by omega
theorem par_odd3 {k : Nat} (h : ¬ k % 2 = 0) : ¬ (k : Int) % 2 = 0 := by omega
theorem drawn_yes {S : Nat → Int} {k : Nat} {s : Int} (h : drawnB S k = true) (hs : S (k + 1) = s) : k % 2 = 0 ∧ 0 < s := by
  unfold drawnB at h
  rw [hs] at h
  simpa using h
theorem drawn_no {S : Nat → Int} {k : Nat} {s : Int} (h : drawnB S k = false) (hs : S (k + 1) = s) (hev : k % 2 = 0) : decide (s > 0) = false := by
  unfold drawnB at h
  rw [hs] at h
  simp [hev] at h
  simp; omega
theorem done_no {S : Nat → Int} {W : List Pt} {k : Nat} (h : drawnB S k = false) : doneI S W (k + 1) = doneI S W k := by rw [doneI_succ, h]; simp
theorem done_yes {S : Nat → Int} {W : List Pt} {k : Nat} (h : drawnB S k = true) : doneI S W (k + 1) = doneI S W k ++ [wholeI S W k] := by rw [doneI_succ, h]; rfl
/-- A piece up to a point of the way. -/
noncomputable def partI (S : Nat → Int) (W : List Pt) (k j : Nat) : List Pt := firstI S W k :: (((List.range j).filter fun i => decide (S k < endsI W (i + 1)) && decide (endsI W (i + 1) ≤ S (k + 1))).map fun i => at0 W (i + 1))
theorem part_succ (S : Nat → Int) (W : List Pt) (k j : Nat) : partI S W k (j + 1) = partI S W k j ++ if decide (S k < endsI W (j + 1)) && decide (endsI W (j + 1) ≤ S (k + 1)) then [at0 W (j + 1)] else [] := by
  unfold partI
  rw [List.range_succ, List.filter_append, List.map_append, List.cons_append]
  congr 2
  cases h : decide (S k < endsI W (j + 1)) && decide (endsI W (j + 1) ≤ S (k + 1)) <;> simp [List.filter, h]
theorem part_len (S : Nat → Int) (W : List Pt) (k j : Nat) : (partI S W k j).length ≤ j + 1 := by
  unfold partI
  have := List.length_filter_le (fun i => decide (S k < endsI W (i + 1)) && decide (endsI W (i + 1) ≤ S (k + 1))) (List.range j)
  simp only [List.length_cons, List.length_map, List.length_range] at this ⊢
  omega
theorem part_2000 (S : Nat → Int) (W : List Pt) (k : Nat) {ip m : Nat} (h1 : ip ≤ m) (h2 : m ≤ 1000) : (partI S W k (ip - 1)).length ≤ 2000 := by
  have := part_len S W k (ip - 1)
  omega
theorem whole_part (S : Nat → Int) (W : List Pt) (k : Nat) : wholeI S W k = partI S W k (W.length - 1) ++ if S (k + 1) < endsI W (W.length - 1) then [placeI W (S (k + 1))] else [] := rfl
theorem row_some {w : World} {b s n : Nat} {t : TypeId} {v : Value} {xs : List Value} (h : w.ownsRow b t s v (n + 1) xs) : ∃ a c, v = .slice a (n + 1) c := by
  obtain ⟨_, ⟨rfl, h0⟩ | ⟨g, cap, cur, rfl, _⟩⟩ := h
  · omega
  · exact ⟨_, _, rfl⟩
/-- What the document's Dash tells of pieces. -/
def RefDP (w : World) (l : List (List Pt)) (e : Ending) (w' : World) : Prop := ∃ v SS, e = .returned (.tuple #[v, .bool (decide (l.length ≤ 4096))]) ∧ Polys w' 0 47 39 v SS ∧ (SS.map Prod.snd = if l.length ≤ 4096 then l else []) ∧ Below w.heap.size w w'
set_option maxHeartbeats 4000000 in
set_option maxRecDepth 100000 in
theorem refDash_c (S : Nat → Int) (W : List Pt) (L : List Int) (phase : Int) (w : World) (gw m cw b p n c : Nat) (hS0 : S 0 = -phase) (hS : ∀ k, S (k + 1) = S k + L.getD (k % n) 0) (hm : W.length = m) (hm2 : 2 ≤ m) (hmm : m ≤ 1000) (hW : Way W) (hroom : ∀ q ∈ W, roomP q = true) (hlen : ∀ i, i + 1 < m → lenB (subP (at0 W (i + 1)) (at0 W i)) = true)
    (hp : PtsAt w gw 0 W) (hgw : gw < w.heap.size) (hn : L.length = n) (h0 : 0 < n) (h8 : n ≤ 8) (hok : L.all okL = true) (hp0 : 0 ≤ phase) (hp1 : phase ≤ 9000000) (hL : IntsL w b p L) (hbl : b < w.heap.size) :
    Calls Try.prog 27 #[.slice (some ⟨gw, 0, none⟩) m cw, .slice (some ⟨b, p, none⟩) n c, .int .i64 phase, .int .i64 4096] w (RefDP w (piecesI S W)) := by
  have HPW : Hid (∀ A, Below w.heap.size w A → PtsAt A gw 0 W) := fun A hA => hp.on hA hgw
  have HIL : Hid (∀ A, Below w.heap.size w A → IntsL A b p L) := fun A hA => hL.keep (S := fun j => j < w.heap.size) ⟨hA.os, hA.tape, hA.output, hA.size, fun k hk _ => hA.block k hk⟩ hbl hbl
  have HM := Lib.hid hm
  have HWY := Lib.hid hW
  have HRM := Lib.hid hroom
  have HLN := Lib.hid hlen
  have HNL := Lib.hid hn
  have HOK := Lib.hid hok
  have HGW := Lib.hid hgw
  have HPH := Lib.hid (And.intro hp0 hp1)
  have HEB : Hid (∀ i, i < m → 0 ≤ endsI W i ∧ endsI W i ≤ 1073741824000) := fun i hi => by
    have := lens_bound (W := W) (by rw [hm]; exact hlen) i (by omega)
    have := ends_nonneg hW (i := i) (by omega)
    omega
  have HMM : Hid (2 ≤ m ∧ m ≤ 1000) := ⟨hm2, hmm⟩
  have HS0 := Lib.hid hS0
  have HS := Lib.hid hS
  have HGR : Hid (∀ k, 1 ≤ L.getD (k % n) 0 ∧ L.getD (k % n) 0 ≤ 1048576) := fun k => by
    obtain ⟨x, hx⟩ : ∃ x, L[k % n]? = some x := ⟨_, List.getElem?_eq_getElem (by rw [hn]; exact Nat.mod_lt _ h0)⟩
    have h := List.all_eq_true.1 hok _ (List.mem_of_getElem? hx)
    unfold okL at h
    simp only [Bool.and_eq_true, decide_eq_true_eq] at h
    rw [List.getD_eq_getElem?_getD, hx]
    exact h
  have HG : Hid (Grows S) := fun k => by have := HGR.out k; rw [hS k]; omega
  have HPO : Hid (∀ i, 0 < i → i < m → 0 < endsI W i) := fun i h1 h2 => by
    obtain ⟨j, rfl⟩ : ∃ j, i = j + 1 := ⟨i - 1, by omega⟩
    have h3 := ends_nonneg hW (i := j) (by omega)
    have h4 := hW j (by omega)
    have h5 : endsI W (j + 1) = endsI W j + lenW W j := rfl
    omega
  clear hp hm hm2 hmm hW hroom hlen hn hok hp0 hp1 hL hbl hgw hS0 hS
  go_enter Try.func27, Try.ntmps27
  go_wp2_with fail
  go_loopw [10, 11] (fun s10 s11 wr => ∃ ip : Nat, 1 ≤ ip ∧ ip ≤ m ∧ s11 = .int .i64 ip ∧ Hid (Below w.heap.size w wr ∧ OwnI wr w.heap.size s10 (endsL W ip))) (fun _ s11 _ => m - (intOf s11).toNat)
  case atStart =>
    exact ⟨1, Nat.le_refl _, by have := HMM.out; omega, rfl, (Below.refl _ _).alloc (Nat.le_refl _) _, OwnI.made1 w _ (Nat.le_refl _) 0⟩
  case round =>
    obtain ⟨ip, hip1, hipm, rfl, hw⟩ := hrel
    obtain ⟨g, cap, eg, hg0, hg1⟩ := ownI_shape hw.out.2 (by rw [endsL_len]; omega)
    rw [endsL_len] at eg
    subst eg
    have hmm := HMM.out
    by_cases hlt : ip < m
    · have hd : decide ((ip : Int) < (m : Int)) = true := by simp; omega
      obtain ⟨i, hi⟩ : ∃ i, i + 1 = ip := ⟨ip - 1, by omega⟩
      have hlt1 : i < m := by omega
      have hlt2 : i < ip := by omega
      have HIP : Hid (1 ≤ ip ∧ ip < m ∧ m ≤ 1000) := ⟨hip1, hlt, hmm.2⟩
      have h2a := at0_some (W := W) (i := i) (by have := HM.out; omega)
      have h2b := at0_some (W := W) (i := ip) (by have := HM.out; omega)
      have hlb := HLN.out i (by omega)
      rw [hi] at hlb
      obtain ⟨e0, he0⟩ : ∃ v, endsI W i = v := ⟨_, rfl⟩
      obtain ⟨e1, he1⟩ : ∃ v, endsI W ip = v := ⟨_, rfl⟩
      obtain ⟨ln, hln⟩ : ∃ v, lenI (subP (at0 W ip) (at0 W i)) = v := ⟨_, rfl⟩
      have hadd : e1 = e0 + ln := by
        rw [← he1, ← he0, ← hln, ← hi]; rfl
      have HE0 : Hid ((endsL W ip)[i]? = some e0) := by unfold Hid; rw [endsL_at (by omega), he0]
      have HEE : Hid (endsI W ip = e1) := he1
      have hb0 := HEB.out i (by omega)
      have hb1 := HEB.out ip (by omega)
      rw [he0] at hb0
      rw [he1] at hb1
      have HLC := Lib.hid (fun A => refLength_c (at0 W i) (at0 W ip) (HRM.out _ (List.mem_of_getElem? h2a)) (HRM.out _ (List.mem_of_getElem? h2b)) hlb A)
      rw [hln] at HLC
      have HPT : Hid (∀ A, Below w.heap.size w A → (A.cell? ⟨gw, i * 2, none⟩ = some (.int .i64 (at0 W i).1) ∧ A.cell? ⟨gw, i * 2 + 1, none⟩ = some (.int .i64 (at0 W i).2)) ∧ (A.cell? ⟨gw, ip * 2, none⟩ = some (.int .i64 (at0 W ip).1) ∧ A.cell? ⟨gw, ip * 2 + 1, none⟩ = some (.int .i64 (at0 W ip).2))) := fun A hA => by
        have h := HPW.out A hA
        have x := h i _ h2a
        have y := h ip _ h2b
        rw [Nat.zero_add] at x y
        exact ⟨x, y⟩
      have E1 : Hid (IntKind.i64.wrap ((ip : Int) - 1) = (i : Int)) := (wrap_is _).trans (by rw [wrapR _ (by omega) (by omega)]; omega)
      have E2 : Hid (IntKind.i64.wrap (e0 + ln) = e1) := (wrap_is _).trans (by rw [hadd]; exact wrapR _ (by omega) (by omega))
      generalize at0 W i = pa at HPT HLC
      generalize at0 W ip = pb at HPT HLC
      obtain ⟨ax, ay⟩ := pa
      obtain ⟨bx, bY⟩ := pb
      have hB2 : Hid (w.heap.size ≤ wr.heap.size) := hw.out.1.size
      clear hi h2a h2b hlb he0 he1 hln hadd hb0 hb1 hmm hip1 hipm
      go_wp2_with fail
      refine wp_region_put2 (by kernel_rfl) (by kernel_rfl) (by kernel_rfl) (fun b' vs w' => (b' 0 = true → vs 0 = .slice (some ⟨g, 0, none⟩) ip cap) ∧ (b' 1 = true → vs 1 = .slice (some ⟨g, 0, none⟩) ip cap) ∧ (b' 2 = true → vs 2 = .int .i64 (ip : Int)) ∧ (b' 3 = true → vs 3 = .int .i64 (i : Int)) ∧ (b' 4 = true → vs 4 = .pointer (some ⟨g, i, none⟩)) ∧ (b' 5 = true → vs 5 = .int .i64 e0) ∧ (b' 6 = true → vs 6 = .slice (some ⟨gw, 0, none⟩) m cw) ∧ (b' 7 = true → vs 7 = .int .i64 (ip : Int)) ∧ (b' 8 = true → vs 8 = .int .i64 (i : Int)) ∧ (b' 9 = true → vs 9 = .pointer (some ⟨gw, i * 2, none⟩)) ∧ (b' 10 = true → vs 10 = .agg #[.int .i64 ax, .int .i64 ay]) ∧ (b' 11 = true → vs 11 = .slice (some ⟨gw, 0, none⟩) m cw) ∧ (b' 12 = true → vs 12 = .int .i64 (ip : Int)) ∧ (b' 13 = true → vs 13 = .pointer (some ⟨gw, ip * 2, none⟩)) ∧ (b' 14 = true → vs 14 = .agg #[.int .i64 bx, .int .i64 bY]) ∧ (b' 15 = true → vs 15 = .int .i64 ln) ∧ (b' 16 = true → vs 16 = .int .i64 e1) ∧ (b' 17 = true → b' 18 = false → Hid (OwnI w' w.heap.size (vs 17) [e1])) ∧ (b' 18 = false → Hid (Below w.heap.size w w' ∧ w.heap.size ≤ w'.heap.size)) ∧ (b' 18 = false → Hid (Below w.heap.size w w' ∧ OwnI w' w.heap.size (.slice (some ⟨g, 0, none⟩) ip cap) (endsL W ip))) ∧ (b' 18 = true → Hid (Below w.heap.size w w' ∧ OwnI w' w.heap.size (vs 18) (endsL W (ip + 1)))) ∧ (b' 17 = true → b' 16 = true) ∧ (b' 16 = true → b' 5 = true) ∧ (b' 5 = true → b' 4 = true) ∧ (b' 4 = true → b' 1 = true) ∧ (b' 16 = true → b' 15 = true) ∧ (b' 15 = true → b' 10 = true) ∧ (b' 15 = true → b' 14 = true) ∧ (b' 18 = true → b' 0 = true) ∧ (b' 18 = true → b' 1 = true) ∧ (b' 18 = true → b' 5 = true) ∧ (b' 18 = true → b' 10 = true) ∧ (b' 18 = true → b' 14 = true) ∧ (b' 18 = true → b' 15 = true) ∧ (b' 18 = true → b' 17 = true) ∧ (b' 19 = true → b' 18 = true ∧ vs 19 = vs 18) ∧ (b' 19 = false → vs 19 = .slice (some ⟨g, 0, none⟩) ip cap) ∧ (b' 19 = true → b' 0 = true) ∧ (b' 19 = true → b' 1 = true)) ?_ ?_ ?_
      · intro vs hvs
        exact ⟨fun h => Bool.noConfusion h, fun h => Bool.noConfusion h, fun h => Bool.noConfusion h, fun h => Bool.noConfusion h, fun h => Bool.noConfusion h, fun h => Bool.noConfusion h, fun h => Bool.noConfusion h, fun h => Bool.noConfusion h, fun h => Bool.noConfusion h, fun h => Bool.noConfusion h, fun h => Bool.noConfusion h, fun h => Bool.noConfusion h, fun h => Bool.noConfusion h, fun h => Bool.noConfusion h, fun h => Bool.noConfusion h, fun h => Bool.noConfusion h, fun h => Bool.noConfusion h, fun h => Bool.noConfusion h, fun _ => Lib.hid ⟨hw.out.1.trans (below_drewN (Below.refl _ _) 1), by have := hB2.out; exact this⟩, fun _ => Lib.hid ⟨hw.out.1.trans (below_drewN (Below.refl _ _) 1), hw.out.2.grow (below_drewN (Below.refl _ _) 1)⟩, fun h => Bool.noConfusion h, fun h => Bool.noConfusion h, fun h => Bool.noConfusion h, fun h => Bool.noConfusion h, fun h => Bool.noConfusion h, fun h => Bool.noConfusion h, fun h => Bool.noConfusion h, fun h => Bool.noConfusion h, fun h => Bool.noConfusion h, fun h => Bool.noConfusion h, fun h => Bool.noConfusion h, fun h => Bool.noConfusion h, fun h => Bool.noConfusion h, fun h => Bool.noConfusion h, fun h => Bool.noConfusion h, fun h => Bool.noConfusion h, fun _ => hvs 19 _ _ rfl rfl, fun h => Bool.noConfusion h, fun h => Bool.noConfusion h⟩
      · rintro b' vs w' i op hi hun hall ⟨h0, h1, h2, h3, h4, h5, h6, h7, h8, h9, h10, h11, h12, h13, h14, h15, h16, y17, hB, hF, hG, hE17_16, hE16_5, hE5_4, hE4_1, hE16_15, hE15_10, hE15_14, hW0, hW1, hW5, hW10, hW14, hW15, hW17, hA, hR, hZ0, hZ1⟩
        have hil : i < 20 := (List.getElem?_eq_some_iff.1 hi).1
        rcases i with _ | _ | _ | _ | _ | _ | _ | _ | _ | _ | _ | _ | _ | _ | _ | _ | _ | _ | _ | _ | i
        · obtain rfl := Option.some.inj hi
          clear hi hil
          have hz : b' 19 = false := by
            cases hzz : b' 19 with
            | false => rfl
            | true => exact absurd (hZ0 hzz) (by rw [hun]; decide)
          have hx := hR hz
          refine wpOp_step rfl (fun K hK => ?_)
          have HKK := Lib.hid hK; clear hK
          simp only [putAll, Act.put, List.setIfInBounds_toArray, List.set_cons_zero, List.set_cons_succ]
          go_simp
          exact HKK.out _ _ ⟨_, by simp only [putAll, Act.put, List.setIfInBounds_toArray, List.set_cons_zero, List.set_cons_succ, hx] <;> rfl, fun _ => rfl, h1, h2, h3, h4, h5, h6, h7, h8, h9, h10, h11, h12, h13, h14, h15, h16, y17, hB, hF, hG, hE17_16, hE16_5, hE5_4, hE4_1, hE16_15, hE15_10, hE15_14, fun _ => rfl, hW1, hW5, hW10, hW14, hW15, hW17, hA, hR, fun _ => rfl, hZ1⟩
        · obtain rfl := Option.some.inj hi
          clear hi hil
          have hz : b' 19 = false := by
            cases hzz : b' 19 with
            | false => rfl
            | true => exact absurd (hZ1 hzz) (by rw [hun]; decide)
          have hx := hR hz
          refine wpOp_step rfl (fun K hK => ?_)
          have HKK := Lib.hid hK; clear hK
          simp only [putAll, Act.put, List.setIfInBounds_toArray, List.set_cons_zero, List.set_cons_succ]
          go_simp
          exact HKK.out _ _ ⟨_, by simp only [putAll, Act.put, List.setIfInBounds_toArray, List.set_cons_zero, List.set_cons_succ, hx] <;> rfl, h0, fun _ => rfl, h2, h3, h4, h5, h6, h7, h8, h9, h10, h11, h12, h13, h14, h15, h16, y17, hB, hF, hG, hE17_16, hE16_5, hE5_4, fun _ => rfl, hE16_15, hE15_10, hE15_14, hW0, fun _ => rfl, hW5, hW10, hW14, hW15, hW17, hA, hR, hZ0, fun _ => rfl⟩
        · obtain rfl := Option.some.inj hi
          clear hi hil
          refine wpOp_step rfl (fun K hK => ?_)
          have HKK := Lib.hid hK; clear hK
          simp only [putAll, Act.put, List.setIfInBounds_toArray, List.set_cons_zero, List.set_cons_succ]
          go_simp
          exact HKK.out _ _ ⟨_, by simp only [putAll, Act.put, List.setIfInBounds_toArray, List.set_cons_zero, List.set_cons_succ] <;> rfl, h0, h1, fun _ => rfl, h3, h4, h5, h6, h7, h8, h9, h10, h11, h12, h13, h14, h15, h16, y17, hB, hF, hG, hE17_16, hE16_5, hE5_4, hE4_1, hE16_15, hE15_10, hE15_14, hW0, hW1, hW5, hW10, hW14, hW15, hW17, hA, hR, hZ0, hZ1⟩
        · obtain rfl := Option.some.inj hi
          clear hi hil
          have d2 := h2 (hall ⟨2, .data⟩ (by simp) rfl)
          refine wpOp_step rfl (fun K hK => ?_)
          have HKK := Lib.hid hK; clear hK
          simp only [putAll, Act.put, List.setIfInBounds_toArray, List.set_cons_zero, List.set_cons_succ]
          go_simp
          exact HKK.out _ _ ⟨_, by simp only [putAll, Act.put, List.setIfInBounds_toArray, List.set_cons_zero, List.set_cons_succ, d2, E1.out] <;> rfl, h0, h1, h2, fun _ => rfl, h4, h5, h6, h7, h8, h9, h10, h11, h12, h13, h14, h15, h16, y17, hB, hF, hG, hE17_16, hE16_5, hE5_4, hE4_1, hE16_15, hE15_10, hE15_14, hW0, hW1, hW5, hW10, hW14, hW15, hW17, hA, hR, hZ0, hZ1⟩
        · obtain rfl := Option.some.inj hi
          clear hi hil
          have d1 := h1 (hall ⟨1, .data⟩ (by simp) rfl)
          have d3 := h3 (hall ⟨3, .data⟩ (by simp) rfl)
          refine wpOp_step rfl (fun K hK => ?_)
          have HKK := Lib.hid hK; clear hK
          simp only [putAll, Act.put, List.setIfInBounds_toArray, List.set_cons_zero, List.set_cons_succ]
          go_simp
          exact HKK.out _ _ ⟨_, by simp only [putAll, Act.put, List.setIfInBounds_toArray, List.set_cons_zero, List.set_cons_succ, d1, d3] <;> rfl, h0, h1, h2, h3, fun _ => rfl, h5, h6, h7, h8, h9, h10, h11, h12, h13, h14, h15, h16, y17, hB, hF, hG, hE17_16, hE16_5, fun _ => rfl, fun _ => hall ⟨1, .data⟩ (by simp) rfl, hE16_15, hE15_10, hE15_14, hW0, hW1, hW5, hW10, hW14, hW15, hW17, hA, hR, hZ0, hZ1⟩
        · obtain rfl := Option.some.inj hi
          clear hi hil
          have hap : b' 18 = false := by
            cases hz : b' 18 with
            | false => rfl
            | true => exact absurd (hW5 hz) (by rw [hun]; decide)
          have d4 := h4 (hall ⟨4, .data⟩ (by simp) rfl)
          have c0 := ownI_at (hF hap).out.2 HE0.out
          refine wpOp_step rfl (fun K hK => ?_)
          have HKK := Lib.hid hK; clear hK
          simp only [putAll, Act.put, List.setIfInBounds_toArray, List.set_cons_zero, List.set_cons_succ]
          go_simp
          exact HKK.out _ _ ⟨_, by simp only [putAll, Act.put, List.setIfInBounds_toArray, List.set_cons_zero, List.set_cons_succ, d4] <;> rfl, h0, h1, h2, h3, h4, fun _ => rfl, h6, h7, h8, h9, h10, h11, h12, h13, h14, h15, h16, y17, hB, hF, hG, hE17_16, fun _ => rfl, fun _ => hall ⟨4, .data⟩ (by simp) rfl, hE4_1, hE16_15, hE15_10, hE15_14, hW0, hW1, fun _ => rfl, hW10, hW14, hW15, hW17, hA, hR, hZ0, hZ1⟩
        · obtain rfl := Option.some.inj hi
          clear hi hil
          refine wpOp_step rfl (fun K hK => ?_)
          have HKK := Lib.hid hK; clear hK
          simp only [putAll, Act.put, List.setIfInBounds_toArray, List.set_cons_zero, List.set_cons_succ]
          go_simp
          exact HKK.out _ _ ⟨_, by simp only [putAll, Act.put, List.setIfInBounds_toArray, List.set_cons_zero, List.set_cons_succ] <;> rfl, h0, h1, h2, h3, h4, h5, fun _ => rfl, h7, h8, h9, h10, h11, h12, h13, h14, h15, h16, y17, hB, hF, hG, hE17_16, hE16_5, hE5_4, hE4_1, hE16_15, hE15_10, hE15_14, hW0, hW1, hW5, hW10, hW14, hW15, hW17, hA, hR, hZ0, hZ1⟩
        · obtain rfl := Option.some.inj hi
          clear hi hil
          refine wpOp_step rfl (fun K hK => ?_)
          have HKK := Lib.hid hK; clear hK
          simp only [putAll, Act.put, List.setIfInBounds_toArray, List.set_cons_zero, List.set_cons_succ]
          go_simp
          exact HKK.out _ _ ⟨_, by simp only [putAll, Act.put, List.setIfInBounds_toArray, List.set_cons_zero, List.set_cons_succ] <;> rfl, h0, h1, h2, h3, h4, h5, h6, fun _ => rfl, h8, h9, h10, h11, h12, h13, h14, h15, h16, y17, hB, hF, hG, hE17_16, hE16_5, hE5_4, hE4_1, hE16_15, hE15_10, hE15_14, hW0, hW1, hW5, hW10, hW14, hW15, hW17, hA, hR, hZ0, hZ1⟩
        · obtain rfl := Option.some.inj hi
          clear hi hil
          have d7 := h7 (hall ⟨7, .data⟩ (by simp) rfl)
          refine wpOp_step rfl (fun K hK => ?_)
          have HKK := Lib.hid hK; clear hK
          simp only [putAll, Act.put, List.setIfInBounds_toArray, List.set_cons_zero, List.set_cons_succ]
          go_simp
          exact HKK.out _ _ ⟨_, by simp only [putAll, Act.put, List.setIfInBounds_toArray, List.set_cons_zero, List.set_cons_succ, d7, E1.out] <;> rfl, h0, h1, h2, h3, h4, h5, h6, h7, fun _ => rfl, h9, h10, h11, h12, h13, h14, h15, h16, y17, hB, hF, hG, hE17_16, hE16_5, hE5_4, hE4_1, hE16_15, hE15_10, hE15_14, hW0, hW1, hW5, hW10, hW14, hW15, hW17, hA, hR, hZ0, hZ1⟩
        · obtain rfl := Option.some.inj hi
          clear hi hil
          have d6 := h6 (hall ⟨6, .data⟩ (by simp) rfl)
          have d8 := h8 (hall ⟨8, .data⟩ (by simp) rfl)
          refine wpOp_step rfl (fun K hK => ?_)
          have HKK := Lib.hid hK; clear hK
          simp only [putAll, Act.put, List.setIfInBounds_toArray, List.set_cons_zero, List.set_cons_succ]
          go_simp
          exact HKK.out _ _ ⟨_, by simp only [putAll, Act.put, List.setIfInBounds_toArray, List.set_cons_zero, List.set_cons_succ, d6, d8] <;> rfl, h0, h1, h2, h3, h4, h5, h6, h7, h8, fun _ => rfl, h10, h11, h12, h13, h14, h15, h16, y17, hB, hF, hG, hE17_16, hE16_5, hE5_4, hE4_1, hE16_15, hE15_10, hE15_14, hW0, hW1, hW5, hW10, hW14, hW15, hW17, hA, hR, hZ0, hZ1⟩
        · obtain rfl := Option.some.inj hi
          clear hi hil
          have hap : b' 18 = false := by
            cases hz : b' 18 with
            | false => rfl
            | true => exact absurd (hW10 hz) (by rw [hun]; decide)
          have d9 := h9 (hall ⟨9, .data⟩ (by simp) rfl)
          have kk := HPT.out w' (hF hap).out.1
          have c0 := kk.1.1
          have c1 := kk.1.2
          clear kk
          refine wpOp_step rfl (fun K hK => ?_)
          have HKK := Lib.hid hK; clear hK
          simp only [putAll, Act.put, List.setIfInBounds_toArray, List.set_cons_zero, List.set_cons_succ]
          go_simp
          exact HKK.out _ _ ⟨_, by simp only [putAll, Act.put, List.setIfInBounds_toArray, List.set_cons_zero, List.set_cons_succ, d9] <;> rfl, h0, h1, h2, h3, h4, h5, h6, h7, h8, h9, fun _ => rfl, h11, h12, h13, h14, h15, h16, y17, hB, hF, hG, hE17_16, hE16_5, hE5_4, hE4_1, hE16_15, fun _ => rfl, hE15_14, hW0, hW1, hW5, fun _ => rfl, hW14, hW15, hW17, hA, hR, hZ0, hZ1⟩
        · obtain rfl := Option.some.inj hi
          clear hi hil
          refine wpOp_step rfl (fun K hK => ?_)
          have HKK := Lib.hid hK; clear hK
          simp only [putAll, Act.put, List.setIfInBounds_toArray, List.set_cons_zero, List.set_cons_succ]
          go_simp
          exact HKK.out _ _ ⟨_, by simp only [putAll, Act.put, List.setIfInBounds_toArray, List.set_cons_zero, List.set_cons_succ] <;> rfl, h0, h1, h2, h3, h4, h5, h6, h7, h8, h9, h10, fun _ => rfl, h12, h13, h14, h15, h16, y17, hB, hF, hG, hE17_16, hE16_5, hE5_4, hE4_1, hE16_15, hE15_10, hE15_14, hW0, hW1, hW5, hW10, hW14, hW15, hW17, hA, hR, hZ0, hZ1⟩
        · obtain rfl := Option.some.inj hi
          clear hi hil
          refine wpOp_step rfl (fun K hK => ?_)
          have HKK := Lib.hid hK; clear hK
          simp only [putAll, Act.put, List.setIfInBounds_toArray, List.set_cons_zero, List.set_cons_succ]
          go_simp
          exact HKK.out _ _ ⟨_, by simp only [putAll, Act.put, List.setIfInBounds_toArray, List.set_cons_zero, List.set_cons_succ] <;> rfl, h0, h1, h2, h3, h4, h5, h6, h7, h8, h9, h10, h11, fun _ => rfl, h13, h14, h15, h16, y17, hB, hF, hG, hE17_16, hE16_5, hE5_4, hE4_1, hE16_15, hE15_10, hE15_14, hW0, hW1, hW5, hW10, hW14, hW15, hW17, hA, hR, hZ0, hZ1⟩
        · obtain rfl := Option.some.inj hi
          clear hi hil
          have d11 := h11 (hall ⟨11, .data⟩ (by simp) rfl)
          have d12 := h12 (hall ⟨12, .data⟩ (by simp) rfl)
          refine wpOp_step rfl (fun K hK => ?_)
          have HKK := Lib.hid hK; clear hK
          simp only [putAll, Act.put, List.setIfInBounds_toArray, List.set_cons_zero, List.set_cons_succ]
          go_simp
          exact HKK.out _ _ ⟨_, by simp only [putAll, Act.put, List.setIfInBounds_toArray, List.set_cons_zero, List.set_cons_succ, d11, d12] <;> rfl, h0, h1, h2, h3, h4, h5, h6, h7, h8, h9, h10, h11, h12, fun _ => rfl, h14, h15, h16, y17, hB, hF, hG, hE17_16, hE16_5, hE5_4, hE4_1, hE16_15, hE15_10, hE15_14, hW0, hW1, hW5, hW10, hW14, hW15, hW17, hA, hR, hZ0, hZ1⟩
        · obtain rfl := Option.some.inj hi
          clear hi hil
          have hap : b' 18 = false := by
            cases hz : b' 18 with
            | false => rfl
            | true => exact absurd (hW14 hz) (by rw [hun]; decide)
          have d13 := h13 (hall ⟨13, .data⟩ (by simp) rfl)
          have kk := HPT.out w' (hF hap).out.1
          have c0 := kk.2.1
          have c1 := kk.2.2
          clear kk
          refine wpOp_step rfl (fun K hK => ?_)
          have HKK := Lib.hid hK; clear hK
          simp only [putAll, Act.put, List.setIfInBounds_toArray, List.set_cons_zero, List.set_cons_succ]
          go_simp
          exact HKK.out _ _ ⟨_, by simp only [putAll, Act.put, List.setIfInBounds_toArray, List.set_cons_zero, List.set_cons_succ, d13] <;> rfl, h0, h1, h2, h3, h4, h5, h6, h7, h8, h9, h10, h11, h12, h13, fun _ => rfl, h15, h16, y17, hB, hF, hG, hE17_16, hE16_5, hE5_4, hE4_1, hE16_15, hE15_10, fun _ => rfl, hW0, hW1, hW5, hW10, fun _ => rfl, hW15, hW17, hA, hR, hZ0, hZ1⟩
        · obtain rfl := Option.some.inj hi
          clear hi hil
          have hap : b' 18 = false := by
            cases hz : b' 18 with
            | false => rfl
            | true => exact absurd (hW15 hz) (by rw [hun]; decide)
          have d10 := h10 (hall ⟨10, .data⟩ (by simp) rfl)
          have d14 := h14 (hall ⟨14, .data⟩ (by simp) rfl)
          refine wpOp_step rfl (fun K hK => ?_)
          have HKK := Lib.hid hK; clear hK
          simp only [putAll, Act.put, List.setIfInBounds_toArray, List.set_cons_zero, List.set_cons_succ]
          go_simp
          refine (HLC.out _).mono ?_
          rintro e w2 ⟨rfl, hb2⟩
          exact HKK.out _ _ ⟨_, by simp only [putAll, Act.put, List.setIfInBounds_toArray, List.set_cons_zero, List.set_cons_succ, d10, d14] <;> rfl, h0, h1, h2, h3, h4, h5, h6, h7, h8, h9, h10, h11, h12, h13, h14, fun _ => rfl, h16, fun h ha => Lib.hid (OwnI.grow (y17 h ha).out hb2), fun ha => Lib.hid ⟨(hB ha).out.1.trans (hb2.mono (hB ha).out.2), Nat.le_trans (hB ha).out.2 hb2.size⟩, fun ha => Lib.hid (⟨(hF ha).out.1.trans (hb2.mono (hF ha).out.1.size), (hF ha).out.2.grow hb2⟩), fun h => absurd (show b' 18 = true from h) (by rw [hap]; decide), hE17_16, hE16_5, hE5_4, hE4_1, fun _ => rfl, fun _ => hall ⟨10, .data⟩ (by simp) rfl, fun _ => hall ⟨14, .data⟩ (by simp) rfl, hW0, hW1, hW5, hW10, hW14, fun _ => rfl, hW17, hA, hR, hZ0, hZ1⟩
        · obtain rfl := Option.some.inj hi
          clear hi hil
          have d5 := h5 (hall ⟨5, .data⟩ (by simp) rfl)
          have d15 := h15 (hall ⟨15, .data⟩ (by simp) rfl)
          refine wpOp_step rfl (fun K hK => ?_)
          have HKK := Lib.hid hK; clear hK
          simp only [putAll, Act.put, List.setIfInBounds_toArray, List.set_cons_zero, List.set_cons_succ]
          go_simp
          exact HKK.out _ _ ⟨_, by simp only [putAll, Act.put, List.setIfInBounds_toArray, List.set_cons_zero, List.set_cons_succ, d5, d15, E2.out] <;> rfl, h0, h1, h2, h3, h4, h5, h6, h7, h8, h9, h10, h11, h12, h13, h14, h15, fun _ => rfl, y17, hB, hF, hG, fun _ => rfl, fun _ => hall ⟨5, .data⟩ (by simp) rfl, hE5_4, hE4_1, fun _ => hall ⟨15, .data⟩ (by simp) rfl, hE15_10, hE15_14, hW0, hW1, hW5, hW10, hW14, hW15, hW17, hA, hR, hZ0, hZ1⟩
        · obtain rfl := Option.some.inj hi
          clear hi hil
          have hap : b' 18 = false := by
            cases hz : b' 18 with
            | false => rfl
            | true => exact absurd (hW17 hz) (by rw [hun]; decide)
          have d16 := h16 (hall ⟨16, .data⟩ (by simp) rfl)
          refine wpOp_step rfl (fun K hK => ?_)
          have HKK := Lib.hid hK; clear hK
          simp only [putAll, Act.put, List.setIfInBounds_toArray, List.set_cons_zero, List.set_cons_succ]
          go_simp
          have hb2 : Below w'.heap.size w' (w'.alloc (.cells #[.int .i64 e1] 3)) := (Below.refl _ _).alloc (Nat.le_refl _) _
          exact HKK.out _ _ ⟨_, by simp only [putAll, Act.put, List.setIfInBounds_toArray, List.set_cons_zero, List.set_cons_succ, d16] <;> rfl, h0, h1, h2, h3, h4, h5, h6, h7, h8, h9, h10, h11, h12, h13, h14, h15, h16, fun _ _ => Lib.hid (OwnI.made1 w' _ (hF hap).out.1.size e1), fun ha => Lib.hid ⟨(hB ha).out.1.trans (hb2.mono (hB ha).out.2), Nat.le_trans (hB ha).out.2 hb2.size⟩, fun ha => Lib.hid (⟨(hF ha).out.1.trans (hb2.mono (hF ha).out.1.size), (hF ha).out.2.grow hb2⟩), fun h => absurd (show b' 18 = true from h) (by rw [hap]; decide), fun _ => hall ⟨16, .data⟩ (by simp) rfl, hE16_5, hE5_4, hE4_1, hE16_15, hE15_10, hE15_14, hW0, hW1, hW5, hW10, hW14, hW15, fun _ => rfl, hA, hR, hZ0, hZ1⟩
        · obtain rfl := Option.some.inj hi
          clear hi hil
          have hap : b' 18 = false := hun
          have d0 := h0 (hall ⟨0, .data⟩ (by simp) rfl)
          have o17 := y17 (hall ⟨17, .data⟩ (by simp) rfl) hap
          obtain ⟨g2, cap2, q0, hc2⟩ := ownI_one o17.out
          refine wpOp_step rfl (fun K hK => ?_)
          have HKK := Lib.hid hK; clear hK
          simp only [putAll, Act.put, List.setIfInBounds_toArray, List.set_cons_zero, List.set_cons_succ]
          refine (if_pos rfl).mpr (wp_append_ints _ _ 22 rfl Try.underlying22 w.heap.size _ (endsL W ip) d0 (hF hap).out.2 ⟨g2, 0, none⟩ 1 cap2 [e1] q0 rfl hc2 (by rw [endsL_len]; have := HIP.out; omega) (hF hap).out.1.size ?_)
          intro v' w2 ho2 hg2 hm2
          exact HKK.out _ _ ⟨_, by simp only [putAll, Act.put, List.setIfInBounds_toArray, List.set_cons_zero, List.set_cons_succ, d0] <;> rfl, h0, h1, h2, h3, h4, h5, h6, h7, h8, h9, h10, h11, h12, h13, h14, h15, h16, fun _ h => Bool.noConfusion h, fun h => Bool.noConfusion h, fun h => Bool.noConfusion h, fun _ => Lib.hid (⟨own_below (hF hap).out.2 hg2 (hF hap).out.1 (Nat.le_refl _) (hF hap).out.1.size, by rw [endsL_succ, HEE.out]; exact ho2⟩), hE17_16, hE16_5, hE5_4, hE4_1, hE16_15, hE15_10, hE15_14, fun _ => hall ⟨0, .data⟩ (by simp) rfl, fun _ => hE4_1 (hE5_4 (hE16_5 (hE17_16 (hall ⟨17, .data⟩ (by simp) rfl)))), fun _ => hE16_5 (hE17_16 (hall ⟨17, .data⟩ (by simp) rfl)), fun _ => hE15_10 (hE16_15 (hE17_16 (hall ⟨17, .data⟩ (by simp) rfl))), fun _ => hE15_14 (hE16_15 (hE17_16 (hall ⟨17, .data⟩ (by simp) rfl))), fun _ => hE16_15 (hE17_16 (hall ⟨17, .data⟩ (by simp) rfl)), fun _ => hall ⟨17, .data⟩ (by simp) rfl, fun hq => absurd (hA hq).1 (by rw [hun]; decide), hR, hZ0, hZ1⟩
        · obtain rfl := Option.some.inj hi
          clear hi hil
          have gB := hG (hall ⟨18, .data⟩ (by simp) rfl)
          refine wpOp_step rfl (fun K hK => ?_)
          have HKK := Lib.hid hK; clear hK
          simp only [putAll, Act.put, List.setIfInBounds_toArray, List.set_cons_zero, List.set_cons_succ]
          go_simp
          exact HKK.out _ _ ⟨_, by simp only [putAll, Act.put, List.setIfInBounds_toArray, List.set_cons_zero, List.set_cons_succ] <;> rfl, h0, h1, h2, h3, h4, h5, h6, h7, h8, h9, h10, h11, h12, h13, h14, h15, h16, y17, hB, hF, hG, hE17_16, hE16_5, hE5_4, hE4_1, hE16_15, hE15_10, hE15_14, hW0, hW1, hW5, hW10, hW14, hW15, hW17, fun _ => ⟨hall ⟨18, .data⟩ (by simp) rfl, rfl⟩, fun h => Bool.noConfusion h, fun _ => hW0 (hall ⟨18, .data⟩ (by simp) rfl), fun _ => hW1 (hall ⟨18, .data⟩ (by simp) rfl)⟩
        · omega
      · rintro b' vs w2 hall ⟨h0, h1, h2, h3, h4, h5, h6, h7, h8, h9, h10, h11, h12, h13, h14, h15, h16, y17, hB, hF, hG, hE17_16, hE16_5, hE5_4, hE4_1, hE16_15, hE15_10, hE15_14, hW0, hW1, hW5, hW10, hW14, hW15, hW17, hA, hR, hZ0, hZ1⟩
        have d0 := h0 (hall 0 (by simp))
        have d1 := h1 (hall 1 (by simp))
        have d2 := h2 (hall 2 (by simp))
        have d3 := h3 (hall 3 (by simp))
        have d4 := h4 (hall 4 (by simp))
        have d5 := h5 (hall 5 (by simp))
        have d6 := h6 (hall 6 (by simp))
        have d7 := h7 (hall 7 (by simp))
        have d8 := h8 (hall 8 (by simp))
        have d9 := h9 (hall 9 (by simp))
        have d10 := h10 (hall 10 (by simp))
        have d11 := h11 (hall 11 (by simp))
        have d12 := h12 (hall 12 (by simp))
        have d13 := h13 (hall 13 (by simp))
        have d14 := h14 (hall 14 (by simp))
        have d15 := h15 (hall 15 (by simp))
        have d16 := h16 (hall 16 (by simp))
        have GG := hG (hall 18 (by simp))
        have dA := (hA (hall 19 (by simp))).2
        simp only [putAll, Act.put, List.setIfInBounds_toArray, List.set_cons_zero, List.set_cons_succ, d0, d1, d2, d3, d4, d5, d6, d7, d8, d9, d10, d11, d12, d13, d14, d15, d16, dA]
        clear hall h0 d0 h1 d1 h2 d2 h3 d3 h4 d4 h5 d5 h6 d6 h7 d7 h8 d8 h9 d9 h10 d10 h11 d11 h12 d12 h13 d13 h14 d14 h15 d15 h16 d16 y17 hB hF hG hE17_16 hE16_5 hE5_4 hE4_1 hE16_15 hE15_10 hE15_14 hW0 hW1 hW5 hW10 hW14 hW15 hW17 hA dA hR hZ0 hZ1
        generalize vs 18 = va at *
        clear hw
        have h1m := HIP.out
        have hw9 : wrap64 ((ip : Int) + 1) = ((ip + 1 : Nat) : Int) := by rw [wrapR _ (by omega) (by omega)]; omega
        go_wp2_with fail
        refine ⟨⟨ip + 1, by omega, by omega, by first | rfl | (rw [hw9]) | (congr 1; omega), GG.out⟩, by simp only [intOf]; omega⟩
    · have hd : decide ((ip : Int) < (m : Int)) = false := by simp; omega
      obtain rfl : m = ip := by omega
      clear hlt hipm hip1
      obtain ⟨w1, rfl⟩ : ∃ x, x = wr := ⟨_, rfl⟩
      have HEN : Hid (∀ A, Below w1.heap.size w1 A → IntsL A g 0 (endsL W m)) := fun A hA i x hx => by
        rw [Nat.zero_add]; exact ownI_at (hw.out.2.grow hA) hx
      have HAT : Hid (∀ A d, Below w1.heap.size w1 A → 0 ≤ d → d < endsI W (m - 1) → Calls Try.prog 48 #[.slice (some ⟨gw, 0, none⟩) m cw, .slice (some ⟨g, 0, none⟩) m cap, .int .i64 d] A fun e w' => e = .returned (.agg #[.int .i64 (placeI W d).1, .int .i64 (placeI W d).2]) ∧ Below A.heap.size A w') := fun A d hA h1 h2 => refAt_c W d A gw g m cw cap HM.out (by have := HMM.out; omega) HWY.out HRM.out HLN.out (HPW.out A (hw.out.1.trans (hA.mono hw.out.1.size))) (Nat.lt_of_lt_of_le HGW.out (Nat.le_trans hw.out.1.size hA.size)) (HEN.out A hA) (Nat.lt_of_lt_of_le hg1 hA.size) h1 h2
      obtain ⟨mm, hmm1⟩ : ∃ mm, mm + 1 = m := ⟨m - 1, by omega⟩
      have hmlt : mm < m := by omega
      have hwm : wrap64 ((m : Int) - 1) = (mm : Int) := by rw [wrapR _ (by omega) (by omega)]; omega
      obtain ⟨al, hal⟩ : ∃ al, endsI W mm = al := ⟨_, rfl⟩
      have HAL : Hid (allI W = al ∧ endsI W (W.length - 1) = al ∧ endsI W (m - 1) = al ∧ 0 < al ∧ al ≤ 1073741824000) := by
        have e1 : W.length - 1 = mm := by rw [HM.out]; omega
        have h1 := HPO.out mm (by omega) hmlt
        have h2 := HEB.out mm hmlt
        refine ⟨?_, by rw [e1, hal], by rw [show m - 1 = mm by omega, hal], by omega, by omega⟩
        unfold allI
        rw [e1, hal]
        omega
      have ce : w1.cell? ⟨g, mm, none⟩ = some (.int .i64 al) := ownI_at hw.out.2 (by rw [endsL_at hmlt, hal])
      obtain ⟨s0, hs0⟩ : ∃ v, S 0 = v := ⟨_, rfl⟩
      have hng : wrap64 (-phase) = s0 := by
        have := HPH.out
        rw [← hs0, HS0.out]; exact wrapR _ (by omega) (by omega)
      have HZ := Lib.hid hs0
      have B1 := Lib.hid hw.out.1
      clear hal hw hmm1 hs0 hmm hg0 hg1
      go_wp2_with fail
      have HNG := Lib.hid hng
      clear hwm ce hng
      go_loopw [13, 14, 15] (fun s13 s14 s15 wx => ∃ (k : Nat) (sk : Int) (q13 : Option Addr) (sn cp : Nat), s15 = .int .i64 k ∧ s14 = .int .i64 sk ∧ s13 = .slice q13 sn cp ∧ sn ≤ 4096 ∧ Hid (S k = sk ∧ (∀ j, j < k → S j < al) ∧ Below w1.heap.size w1 wx ∧ ∃ SS, Polys wx w1.heap.size 47 39 (.slice q13 sn cp) SS ∧ SS.map Prod.snd = doneI S W k ∧ SS.length = sn)) (fun _ s14 _ _ => (al - intOf s14).toNat)
      case atStart => exact ⟨0, s0, none, 0, 0, rfl, by rw [HNG.out], rfl, by omega, HZ.out, fun j hj => absurd hj (by omega), Below.refl _ _, [], Polys.nil _ _ _ _, rfl, rfl⟩
      case round =>
        obtain ⟨wx, rfl⟩ : ∃ x, x = wr := ⟨_, rfl⟩
        obtain ⟨k, sk, q13, sn, cp, rfl, rfl, rfl, hsn, hv⟩ := hrel
        have hkb : (k : Int) ≤ sk + 9000000 ∧ sk ≤ al + 1048576 := by
          have h1 := grows_le HG.out k 0 (by omega)
          have h2 := HS0.out
          have h3 := HPH.out
          have h4 := hv.out.1
          refine ⟨by simp at h1; omega, ?_⟩
          rcases Nat.eq_zero_or_pos k with h | h
          · subst h
            have := HAL.out.2.2.2
            omega
          · have h5 := hv.out.2.1 (k - 1) (by omega)
            have h6 := HS.out (k - 1)
            have h7 := HGR.out (k - 1)
            rw [show k - 1 + 1 = k by omega] at h6
            omega
        have hab := HAL.out.2.2.2
        by_cases hlt : sk < al
        · have hd : decide (sk < al) = true := by simp; omega
          obtain ⟨u, hu⟩ : ∃ u, k % n = u := ⟨_, rfl⟩
          have hun : u < n := by rw [← hu]; exact Nat.mod_lt _ h0
          obtain ⟨x, hx⟩ : ∃ x, L[u]? = some x := ⟨_, List.getElem?_eq_getElem (by rw [HNL.out]; exact hun)⟩
          have hgx : L.getD u 0 = x := by rw [List.getD_eq_getElem?_getD, hx]; rfl
          have hl := HGR.out k
          have hs := HS.out k
          rw [hu, hgx] at hl hs
          rw [hv.out.1] at hs
          obtain ⟨s1, hs1⟩ : ∃ v, S (k + 1) = v := ⟨_, rfl⟩
          rw [hs1] at hs
          have HN1 : Hid (S (k + 1) = s1 ∧ sk < s1 ∧ s1 ≤ sk + 1048576 ∧ ∀ j, j < k + 1 → S j < al) := ⟨hs1, by omega, by omega, fun j hj => by
            rcases Nat.lt_or_ge j k with h | h
            · exact hv.out.2.1 j h
            · obtain rfl : j = k := by omega
              rw [hv.out.1]; exact hlt⟩
          have HKB : Hid (((k : Int) ≤ sk + 9000000 ∧ sk ≤ al + 1048576) ∧ sk < al ∧ 0 < al ∧ al ≤ 1073741824000) := ⟨hkb, hlt, hab.1, hab.2⟩
          have cx : wx.cell? ⟨b, p + u, none⟩ = some (.int .i64 x) := HIL.out wx (B1.out.trans (hv.out.2.2.1.mono B1.out.size)) u x hx
          have hrem : ((k : Int).tmod (n : Int)) = (u : Int) := by rw [Int.tmod_eq_emod_of_nonneg (by omega), ← hu]; omega
          have hz : ((n : Int) == 0) = false := by simp; omega
          have hz2 : decide ((n : Int) = 0) = false := by simp; omega
          have hz3 : decide (n = 0) = false := by simp; omega
          have hn0 : ¬ n = 0 := by omega
          have hwa : wrap64 (sk + x) = s1 := by rw [wrapR _ (by omega) (by omega)]; omega
          have hw3 : wrap64 ((k : Int) + 1) = ((k + 1 : Nat) : Int) := by rw [wrapR _ (by omega) (by omega)]; omega
          cases hdr : drawnB S k
          · have HDN : Hid (doneI S W (k + 1) = doneI S W k) := done_no hdr
            by_cases hev : k % 2 = 0
            · have hpar : ((k : Int).tmod 2 == 0) = true := par_even hev
              have hp3 := par_even3 hev
              have hp4 : decide ((k : Int) % 2 = 0) = true := decide_eq_true hp3
              have hdp : decide (s1 > 0) = false := drawn_no hdr hs1 hev
              clear hx hgx hs hu hl hs1 hkb hab hlt hdr hev
              go_wp2_with fail
              refine ⟨⟨k + 1, s1, q13, sn, cp, by first | rfl | rw [hw3], by first | rfl | rw [hwa], rfl, hsn, HN1.out.1, HN1.out.2.2.2, hv.out.2.2.1, ?_⟩, by simp only [intOf]; have := HN1.out; have := HKB.out; omega⟩
              rw [HDN.out]; exact hv.out.2.2.2
            · have hpar : ((k : Int).tmod 2 == 0) = false := par_odd hev
              have hp3 := par_odd3 hev
              have hp4 : decide ((k : Int) % 2 = 0) = false := decide_eq_false hp3
              clear hx hgx hs hu hl hs1 hkb hab hlt hdr hev
              go_wp2_with fail
              refine ⟨⟨k + 1, s1, q13, sn, cp, by first | rfl | rw [hw3], by first | rfl | rw [hwa], rfl, hsn, HN1.out.1, HN1.out.2.2.2, hv.out.2.2.1, ?_⟩, by simp only [intOf]; have := HN1.out; have := HKB.out; omega⟩
              rw [HDN.out]; exact hv.out.2.2.2
          · have hev : k % 2 = 0 ∧ 0 < s1 := drawn_yes hdr hs1
            have HDN : Hid (doneI S W (k + 1) = doneI S W k ++ [wholeI S W k]) := done_yes hdr
            have hpar : ((k : Int).tmod 2 == 0) = true := par_even hev.1
            have hp3 := par_even3 hev.1
            have hp4 : decide ((k : Int) % 2 = 0) = true := decide_eq_true hp3
            have hdp : decide (s1 > 0) = true := decide_eq_true hev.2
            have HS1P : Hid (0 < s1) := hev.2
            clear hx hgx hs hu hl hs1 hkb hab hlt hdr hev
            obtain ⟨tb, htb⟩ : ∃ tb, decide (sk ≤ 0) = tb := ⟨_, rfl⟩
            have HTB := Lib.hid htb
            go_upto_if 75 with fail
            try rw [hwa]
            clear htb hrem hz hz2 hz3 hn0 hpar hp3 hp4 hdp cx hwa
            go_cut [17] from 76 to 88 (fun s17 wc => ∃ (a : Option Addr) (q cq : Nat), s17 = .slice a q cq ∧ Hid (Below wx.heap.size wx wc ∧ Own wc wx.heap.size 39 (.slice a q cq) [firstI S W k]))
            case first =>
              cases tb
              rotate_left
              · have hb0 : sk ≤ 0 := of_decide_eq_true HTB.out
                obtain ⟨⟨px, py⟩, hp⟩ : ∃ q, at0 W 0 = q := ⟨_, rfl⟩
                have HFI : Hid (firstI S W k = (px, py)) := by unfold Hid firstI; rw [hv.out.1, if_pos hb0, hp]
                have hpt := HPW.out wx (B1.out.trans (hv.out.2.2.1.mono B1.out.size)) 0 _ (at0_some (W := W) (i := 0) (by rw [HM.out]; have := HMM.out; omega))
                rw [hp] at hpt
                simp only [Nat.zero_mul, Nat.zero_add] at hpt
                obtain ⟨c0, c1⟩ := hpt
                clear hb0 hp
                have A1 : Hid (Below wx.heap.size wx (wx.alloc (.cells #[.int .i64 px, .int .i64 py] 39))) := (Below.refl _ _).alloc (Nat.le_refl _) _
                have OWX : Hid (Own (wx.alloc (.cells #[.int .i64 px, .int .i64 py] 39)) wx.heap.size 39 _ (([] : List Pt))) := World.ownsRow_nil _ _ _ _
                have BX : Hid (Below wx.heap.size wx (wx.alloc (.cells #[.int .i64 px, .int .i64 py] 39))) := (Below.refl wx.heap.size wx).trans (A1.out.mono (Below.refl wx.heap.size wx).size)
                have ROWX : Hid (Row (wx.alloc (.cells #[.int .i64 px, .int .i64 py] 39)) (.slice (some ⟨wx.heap.size, 0, none⟩) 1 1) [(px, py)]) := Row.new wx [(px, py)] _ _ 1 rfl rfl
                have HLX : Hid ((([] : List Pt)).length + [(px, py)].length ≤ 100000) := by unfold Hid; simp
                have HBX : Hid (wx.heap.size ≤ (wx.alloc (.cells #[.int .i64 px, .int .i64 py] 39)).heap.size) := BX.out.size
                clear A1
                go_wp2_with (at_builtin; refine wpList_append_pts rfl _ _ 47 39 rfl Try.underlying47 infoR wx.heap.size _ _ rfl OWX.out _ [(px, py)] rfl ROWX.out HLX.out HBX.out ?_)
                intro v' w5 hown hgrow _
                have B5 : Hid (Below wx.heap.size wx w5) := own_below OWX.out hgrow BX.out (Nat.le_refl _) HBX.out
                have O5 : Hid (Own w5 wx.heap.size 39 v' [firstI S W k]) := by unfold Hid; rw [HFI.out]; exact hown
                obtain ⟨va, vn, vc, rfl⟩ := own_shape' hown
                clear hown hgrow c0 c1
                go_wp2_with fail
                go_meet
                exact ⟨_, _, _, rfl, B5.out, O5.out⟩
              · have hb0 : ¬ sk ≤ 0 := of_decide_eq_false HTB.out
                obtain ⟨⟨px, py⟩, hp⟩ : ∃ q, placeI W sk = q := ⟨_, rfl⟩
                have HFI : Hid (firstI S W k = (px, py)) := by unfold Hid firstI; rw [hv.out.1, if_neg hb0, hp]
                have HC := Lib.hid (HAT.out wx sk hv.out.2.2.1 (by omega) (by rw [HAL.out.2.2.1]; exact HKB.out.2.1))
                rw [hp] at HC
                clear hb0 hp
                go_wp2_with fail
                refine HC.out.mono ?_
                rintro e w4 ⟨rfl, hb⟩
                have B4 := Lib.hid hb
                clear hb HC
                have A1 : Hid (Below w4.heap.size w4 (w4.alloc (.cells #[.int .i64 px, .int .i64 py] 39))) := (Below.refl _ _).alloc (Nat.le_refl _) _
                have OWX : Hid (Own (w4.alloc (.cells #[.int .i64 px, .int .i64 py] 39)) wx.heap.size 39 _ (([] : List Pt))) := World.ownsRow_nil _ _ _ _
                have BX : Hid (Below wx.heap.size wx (w4.alloc (.cells #[.int .i64 px, .int .i64 py] 39))) := (B4.out).trans (A1.out.mono (B4.out).size)
                have ROWX : Hid (Row (w4.alloc (.cells #[.int .i64 px, .int .i64 py] 39)) (.slice (some ⟨w4.heap.size, 0, none⟩) 1 1) [(px, py)]) := Row.new w4 [(px, py)] _ _ 1 rfl rfl
                have HLX : Hid ((([] : List Pt)).length + [(px, py)].length ≤ 100000) := by unfold Hid; simp
                have HBX : Hid (wx.heap.size ≤ (w4.alloc (.cells #[.int .i64 px, .int .i64 py] 39)).heap.size) := BX.out.size
                clear A1
                go_wp2_with (at_builtin; refine wpList_append_pts rfl _ _ 47 39 rfl Try.underlying47 infoR wx.heap.size _ _ rfl OWX.out _ [(px, py)] rfl ROWX.out HLX.out HBX.out ?_)
                intro v' w5 hown hgrow _
                have B5 : Hid (Below wx.heap.size wx w5) := own_below OWX.out hgrow BX.out (Nat.le_refl _) HBX.out
                have O5 : Hid (Own w5 wx.heap.size 39 v' [firstI S W k]) := by unfold Hid; rw [HFI.out]; exact hown
                obtain ⟨va, vn, vc, rfl⟩ := own_shape' hown
                clear hown hgrow
                go_wp2_with fail
                go_meet
                exact ⟨_, _, _, rfl, B5.out, O5.out⟩
            case rest =>
              obtain ⟨a0, q0, cq0, rfl, hM5⟩ := hcut
              have hmm3 := HMM.out
              go_wp2_with fail
              go_loopw [17, 18] (fun s17 s18 wr => ∃ (ip : Nat) (a : Option Addr) (q cq : Nat), 1 ≤ ip ∧ ip ≤ m ∧ s18 = .int .i64 ip ∧ s17 = .slice a q cq ∧ Hid (Below wx.heap.size wx wr ∧ Own wr wx.heap.size 39 (.slice a q cq) (partI S W k (ip - 1)))) (fun _ s18 _ => m - (intOf s18).toNat)
              case atStart => exact ⟨1, a0, q0, cq0, Nat.le_refl _, by omega, rfl, rfl, hM5.out.1, hM5.out.2⟩
              case round =>
                obtain ⟨ip, a, q, cq, hip1, hipm, rfl, rfl, hO⟩ := hrel
                by_cases hlt : ip < m
                · have hd2 : decide ((ip : Int) < (m : Int)) = true := by simp; omega
                  obtain ⟨i, hi⟩ : ∃ i, i + 1 = ip := ⟨ip - 1, by omega⟩
                  obtain ⟨en, hen⟩ : ∃ v, endsI W ip = v := ⟨_, rfl⟩
                  have hen0 := HPO.out ip (by omega) hlt
                  rw [hen] at hen0
                  have hBB : Below w1.heap.size w1 wr := hv.out.2.2.1.trans (hO.out.1.mono hv.out.2.2.1.size)
                  have ce := HEN.out wr hBB ip en (by rw [endsL_at hlt, hen])
                  rw [Nat.zero_add] at ce
                  have hd5 : decide (en > 0) = true := by simp; omega
                  have hw4 : wrap64 ((ip : Int) + 1) = ((ip + 1 : Nat) : Int) := by rw [wrapR _ (by omega) (by omega)]; omega
                  have HPS : Hid (partI S W k ip = partI S W k (ip - 1) ++ if decide (sk < en) && decide (en ≤ s1) then [at0 W ip] else []) := by
                    unfold Hid
                    rw [← hi, Nat.add_sub_cancel, part_succ, hi, hv.out.1, HN1.out.1, hen]
                  have HPL : Hid ((partI S W k (ip - 1)).length ≤ 2000) := part_2000 S W k hipm hmm3.2
                  by_cases hc1 : sk < en
                  · have hd3 : decide (en > sk) = true := by simp; omega
                    by_cases hc2 : en ≤ s1
                    · have hd4 : decide (en ≤ s1) = true := by simp; omega
                      obtain ⟨⟨px, py⟩, hp⟩ : ∃ q, at0 W ip = q := ⟨_, rfl⟩
                      have HPE : Hid (partI S W k ip = partI S W k (ip - 1) ++ [(px, py)]) := by
                        unfold Hid; rw [HPS.out, hp]; simp [hc1, hc2]
                      obtain ⟨c0, c1⟩ := HPW.out wr (B1.out.trans (hBB.mono B1.out.size)) ip _ (at0_some (W := W) (i := ip) (by rw [HM.out]; exact hlt))
                      rw [Nat.zero_add, hp] at c0 c1
                      clear hc1 hc2 hp hi hen hen0 hBB
                      have A1 : Hid (Below wr.heap.size wr (wr.alloc (.cells #[.int .i64 px, .int .i64 py] 39))) := (Below.refl _ _).alloc (Nat.le_refl _) _
                      have OWX : Hid (Own (wr.alloc (.cells #[.int .i64 px, .int .i64 py] 39)) wx.heap.size 39 _ (partI S W k (ip - 1))) := hO.out.2.grow A1.out
                      have BX : Hid (Below wx.heap.size wx (wr.alloc (.cells #[.int .i64 px, .int .i64 py] 39))) := (hO.out.1).trans (A1.out.mono (hO.out.1).size)
                      have ROWX : Hid (Row (wr.alloc (.cells #[.int .i64 px, .int .i64 py] 39)) (.slice (some ⟨wr.heap.size, 0, none⟩) 1 1) [(px, py)]) := Row.new wr [(px, py)] _ _ 1 rfl rfl
                      have HLX : Hid ((partI S W k (ip - 1)).length + [(px, py)].length ≤ 100000) := by unfold Hid; have := HPL.out; simp; omega
                      have HBX : Hid (wx.heap.size ≤ (wr.alloc (.cells #[.int .i64 px, .int .i64 py] 39)).heap.size) := BX.out.size
                      clear A1
                      go_wp2_with (at_builtin; refine wpList_append_pts rfl _ _ 47 39 rfl Try.underlying47 infoR wx.heap.size _ _ rfl OWX.out _ [(px, py)] rfl ROWX.out HLX.out HBX.out ?_)
                      intro v' w5 hown hgrow _
                      have B5 : Hid (Below wx.heap.size wx w5) := own_below OWX.out hgrow BX.out (Nat.le_refl _) HBX.out
                      have O5 : Hid (Own w5 wx.heap.size 39 v' (partI S W k (ip + 1 - 1))) := by unfold Hid; rw [Nat.add_sub_cancel, HPE.out]; exact hown
                      obtain ⟨va, vn, vc, rfl⟩ := own_shape' hown
                      clear hown hgrow c0 c1
                      go_wp2_with fail
                      exact ⟨⟨ip + 1, _, _, _, by omega, by omega, by first | rfl | rw [hw4], rfl, B5.out, O5.out⟩, by simp only [intOf]; omega⟩
                    · have hd4 : decide (en ≤ s1) = false := by simp; omega
                      have HPE : Hid (partI S W k (ip + 1 - 1) = partI S W k (ip - 1)) := by
                        unfold Hid; rw [Nat.add_sub_cancel, HPS.out]; simp [hc2]
                      clear hc1 hc2 hi hen hen0 hBB
                      go_wp2_with fail
                      exact ⟨⟨ip + 1, a, q, cq, by omega, by omega, by first | rfl | rw [hw4], rfl, hO.out.1, by rw [HPE.out]; exact hO.out.2⟩, by simp only [intOf]; omega⟩
                  · have hd3 : decide (en > sk) = false := by simp; omega
                    have HPE : Hid (partI S W k (ip + 1 - 1) = partI S W k (ip - 1)) := by
                      unfold Hid; rw [Nat.add_sub_cancel, HPS.out]; simp [hc1]
                    clear hc1 hi hen hen0 hBB
                    go_wp2_with fail
                    exact ⟨⟨ip + 1, a, q, cq, by omega, by omega, by first | rfl | rw [hw4], rfl, hO.out.1, by rw [HPE.out]; exact hO.out.2⟩, by simp only [intOf]; omega⟩
                · obtain rfl : m = ip := by omega
                  have hd2 : decide ((m : Int) < (m : Int)) = false := by simp
                  have HWH : Hid (wholeI S W k = partI S W k (m - 1) ++ if s1 < al then [placeI W s1] else []) := by
                    unfold Hid
                    rw [whole_part, HN1.out.1, HAL.out.2.1, HM.out]
                  have HPL : Hid ((partI S W k (m - 1)).length ≤ 2000) := part_2000 S W k hipm hmm3.2
                  clear hlt hip1 hipm
                  by_cases hea : s1 < al
                  · have hd6 : decide (s1 < al) = true := by simp; omega
                    obtain ⟨⟨px, py⟩, hp⟩ : ∃ q, placeI W s1 = q := ⟨_, rfl⟩
                    have HPE : Hid (wholeI S W k = partI S W k (m - 1) ++ [(px, py)]) := by
                      unfold Hid; rw [HWH.out, if_pos hea, hp]
                    have HC := Lib.hid (HAT.out wr s1 (hv.out.2.2.1.trans (hO.out.1.mono hv.out.2.2.1.size)) (Int.le_of_lt HS1P.out) (by rw [HAL.out.2.2.1]; exact hea))
                    rw [hp] at HC
                    clear hea hp
                    go_wp2_with fail
                    refine HC.out.mono ?_
                    rintro e w4 ⟨rfl, hb⟩
                    have B4 : Hid (Below wx.heap.size wx w4 ∧ Own w4 wx.heap.size 39 (.slice a q cq) (partI S W k (m - 1))) := ⟨hO.out.1.trans (hb.mono hO.out.1.size), hO.out.2.grow hb⟩
                    clear hb HC
                    have A1 : Hid (Below w4.heap.size w4 (w4.alloc (.cells #[.int .i64 px, .int .i64 py] 39))) := (Below.refl _ _).alloc (Nat.le_refl _) _
                    have OWX : Hid (Own (w4.alloc (.cells #[.int .i64 px, .int .i64 py] 39)) wx.heap.size 39 _ (partI S W k (m - 1))) := B4.out.2.grow A1.out
                    have BX : Hid (Below wx.heap.size wx (w4.alloc (.cells #[.int .i64 px, .int .i64 py] 39))) := (B4.out.1).trans (A1.out.mono (B4.out.1).size)
                    have ROWX : Hid (Row (w4.alloc (.cells #[.int .i64 px, .int .i64 py] 39)) (.slice (some ⟨w4.heap.size, 0, none⟩) 1 1) [(px, py)]) := Row.new w4 [(px, py)] _ _ 1 rfl rfl
                    have HLX : Hid ((partI S W k (m - 1)).length + [(px, py)].length ≤ 100000) := by unfold Hid; have := HPL.out; simp; omega
                    have HBX : Hid (wx.heap.size ≤ (w4.alloc (.cells #[.int .i64 px, .int .i64 py] 39)).heap.size) := BX.out.size
                    clear A1
                    go_wp2_with (at_builtin; refine wpList_append_pts rfl _ _ 47 39 rfl Try.underlying47 infoR wx.heap.size _ _ rfl OWX.out _ [(px, py)] rfl ROWX.out HLX.out HBX.out ?_)
                    intro v' w5 hown hgrow _
                    have B5 : Hid (Below wx.heap.size wx w5) := own_below OWX.out hgrow BX.out (Nat.le_refl _) HBX.out
                    have O5 : Hid (Own w5 wx.heap.size 39 v' (wholeI S W k)) := by unfold Hid; rw [HPE.out]; exact hown
                    obtain ⟨va0, vn0, vc0, rfl⟩ := own_shape' hown
                    clear hown hgrow
                    have HP3 : Hid (∃ SS, Polys w5 w1.heap.size 47 39 (.slice q13 sn cp) SS ∧ SS.map Prod.snd = doneI S W k ∧ SS.length = sn) := by
                      obtain ⟨SS, h1, h2, h3⟩ := hv.out.2.2.2
                      exact ⟨SS, h1.grow B5.out, h2, h3⟩
                    obtain ⟨SS, hS1, hS2, hS3⟩ := HP3.out
                    have HS2 := Lib.hid hS2
                    have HS3 := Lib.hid hS3
                    have B7 : Hid (Below w1.heap.size w1 w5) := hv.out.2.2.1.trans (B5.out.mono hv.out.2.2.1.size)
                    have hP4 : Hid (Polys (w5.alloc (.cells #[.slice va0 vn0 vc0] 47)) w1.heap.size 47 39 (.slice q13 sn cp) SS) := hS1.grow ((Below.refl _ _).alloc (Nat.le_refl _) _)
                    have B8 : Hid (Below w1.heap.size w1 (w5.alloc (.cells #[.slice va0 vn0 vc0] 47))) := B7.out.alloc B7.out.size _
                    have hO3 : Hid (Own (w5.alloc (.cells #[.slice va0 vn0 vc0] 47)) w1.heap.size 39 (.slice va0 vn0 vc0) (wholeI S W k)) := (Own.base (O5.out) hv.out.2.2.1.size).grow ((Below.refl _ _).alloc (Nat.le_refl _) _)
                    clear hS1 hS2 hS3 HP3 B7
                    go_wp2_with (at_builtin; refine wpList_append_poly rfl _ _ 59 47 rfl Try.underlying59 infoVR w1.heap.size _ sn _ rfl (by have := hP4.out.row; rw [HS3.out] at this; exact this) ⟨w5.heap.size, 0, none⟩ 1 1 [.slice va0 vn0 vc0] rfl rfl ?d1 ?d2 ?d3 ?d4 ?_)
                    case d1 =>
                      intro i u hi
                      match i with
                      | 0 =>
                        cases hi
                        exact (Blk.new w5 47 #[.slice va0 vn0 vc0]).cell 0
                      | i + 1 => simp at hi
                    case d2 => intro u hu; rw [List.mem_singleton.1 hu]; rfl
                    case d3 => omega
                    case d4 => exact B8.out.size
                    intro v' w6 hown hgrow _
                    obtain ⟨sm, hsm⟩ : ∃ sm, sn + 1 = sm := ⟨_, rfl⟩
                    have P6 : Hid (Polys w6 w1.heap.size 47 39 v' (SS ++ [(.slice va0 vn0 vc0, wholeI S W k)])) := hP4.out.more (by decide) hgrow hO3.out (by rw [HS3.out]; exact hown)
                    have B6 : Hid (Below w1.heap.size w1 w6) := own_below hP4.out.row hgrow B8.out (Nat.le_refl _) B8.out.size
                    obtain ⟨va, vc, rfl⟩ := row_some hown
                    rw [hsm] at P6 ⊢
                    have HLM : Hid ((SS ++ [((.slice va0 vn0 vc0 : Value), wholeI S W k)]).map Prod.snd = doneI S W (k + 1) ∧ (SS ++ [((.slice va0 vn0 vc0 : Value), wholeI S W k)]).length = sm) := by
                      refine ⟨by rw [List.map_append, HS2.out, HDN.out]; rfl, by rw [List.length_append, HS3.out]; exact hsm⟩
                    clear hown hgrow hP4 hO3 B8 HS2 HS3
                    by_cases hmany : 4096 < sm
                    · have hdm : decide ((sm : Int) > 4096) = true := by simp; omega
                      have HMA : Hid (¬ (piecesI S W).length ≤ 4096) := by
                        obtain ⟨K, hK⟩ := isEnd_some W HG.out
                        have hkK : k + 1 ≤ K := by
                          rcases Nat.lt_or_ge k K with h | h
                          · exact h
                          · have h1 := grows_le HG.out k K h
                            have h2 := hK.2
                            rw [HAL.out.1] at h2
                            have h3 := hv.out.1
                            have h4 := HKB.out.2.1
                            omega
                        have h5 := doneI_len (S := S) (W := W) hkK
                        rw [← HLM.out.1, List.length_map, HLM.out.2] at h5
                        unfold Hid
                        rw [piecesI_eq hK]
                        omega
                      clear hmany hsm
                      go_wp2_with fail
                      go_ret2
                      exact ⟨_, [], by rw [decide_eq_false HMA.out]; rfl, Polys.nil _ _ _ _, by rw [if_neg HMA.out]; rfl, B1.out.trans (B6.out.mono B1.out.size)⟩
                    · have hdm : decide ((sm : Int) > 4096) = false := by simp; omega
                      have hsm4 : sm ≤ 4096 := by omega
                      clear hmany hsm
                      go_wp2_with fail
                      exact ⟨⟨k + 1, s1, va, sm, vc, by first | rfl | rw [hw3], by first | rfl | rw [hwa], rfl, hsm4, HN1.out.1, HN1.out.2.2.2, B6.out, _, P6.out, HLM.out.1, HLM.out.2⟩, by simp only [intOf]; have := HN1.out; have := HKB.out; omega⟩
                  · have hd6 : decide (s1 < al) = false := by simp; omega
                    have O5 : Hid (Own wr wx.heap.size 39 (.slice a q cq) (wholeI S W k)) := by
                      unfold Hid; rw [HWH.out, if_neg hea, List.append_nil]; exact hO.out.2
                    clear hea
                    have HP3 : Hid (∃ SS, Polys wr w1.heap.size 47 39 (.slice q13 sn cp) SS ∧ SS.map Prod.snd = doneI S W k ∧ SS.length = sn) := by
                      obtain ⟨SS, h1, h2, h3⟩ := hv.out.2.2.2
                      exact ⟨SS, h1.grow hO.out.1, h2, h3⟩
                    obtain ⟨SS, hS1, hS2, hS3⟩ := HP3.out
                    have HS2 := Lib.hid hS2
                    have HS3 := Lib.hid hS3
                    have B7 : Hid (Below w1.heap.size w1 wr) := hv.out.2.2.1.trans (hO.out.1.mono hv.out.2.2.1.size)
                    have hP4 : Hid (Polys (wr.alloc (.cells #[.slice a q cq] 47)) w1.heap.size 47 39 (.slice q13 sn cp) SS) := hS1.grow ((Below.refl _ _).alloc (Nat.le_refl _) _)
                    have B8 : Hid (Below w1.heap.size w1 (wr.alloc (.cells #[.slice a q cq] 47))) := B7.out.alloc B7.out.size _
                    have hO3 : Hid (Own (wr.alloc (.cells #[.slice a q cq] 47)) w1.heap.size 39 (.slice a q cq) (wholeI S W k)) := (Own.base (O5.out) hv.out.2.2.1.size).grow ((Below.refl _ _).alloc (Nat.le_refl _) _)
                    clear hS1 hS2 hS3 HP3 B7
                    go_wp2_with (at_builtin; refine wpList_append_poly rfl _ _ 59 47 rfl Try.underlying59 infoVR w1.heap.size _ sn _ rfl (by have := hP4.out.row; rw [HS3.out] at this; exact this) ⟨wr.heap.size, 0, none⟩ 1 1 [.slice a q cq] rfl rfl ?d1 ?d2 ?d3 ?d4 ?_)
                    case d1 =>
                      intro i u hi
                      match i with
                      | 0 =>
                        cases hi
                        exact (Blk.new wr 47 #[.slice a q cq]).cell 0
                      | i + 1 => simp at hi
                    case d2 => intro u hu; rw [List.mem_singleton.1 hu]; rfl
                    case d3 => omega
                    case d4 => exact B8.out.size
                    intro v' w6 hown hgrow _
                    obtain ⟨sm, hsm⟩ : ∃ sm, sn + 1 = sm := ⟨_, rfl⟩
                    have P6 : Hid (Polys w6 w1.heap.size 47 39 v' (SS ++ [(.slice a q cq, wholeI S W k)])) := hP4.out.more (by decide) hgrow hO3.out (by rw [HS3.out]; exact hown)
                    have B6 : Hid (Below w1.heap.size w1 w6) := own_below hP4.out.row hgrow B8.out (Nat.le_refl _) B8.out.size
                    obtain ⟨va, vc, rfl⟩ := row_some hown
                    rw [hsm] at P6 ⊢
                    have HLM : Hid ((SS ++ [((.slice a q cq : Value), wholeI S W k)]).map Prod.snd = doneI S W (k + 1) ∧ (SS ++ [((.slice a q cq : Value), wholeI S W k)]).length = sm) := by
                      refine ⟨by rw [List.map_append, HS2.out, HDN.out]; rfl, by rw [List.length_append, HS3.out]; exact hsm⟩
                    clear hown hgrow hP4 hO3 B8 HS2 HS3
                    by_cases hmany : 4096 < sm
                    · have hdm : decide ((sm : Int) > 4096) = true := by simp; omega
                      have HMA : Hid (¬ (piecesI S W).length ≤ 4096) := by
                        obtain ⟨K, hK⟩ := isEnd_some W HG.out
                        have hkK : k + 1 ≤ K := by
                          rcases Nat.lt_or_ge k K with h | h
                          · exact h
                          · have h1 := grows_le HG.out k K h
                            have h2 := hK.2
                            rw [HAL.out.1] at h2
                            have h3 := hv.out.1
                            have h4 := HKB.out.2.1
                            omega
                        have h5 := doneI_len (S := S) (W := W) hkK
                        rw [← HLM.out.1, List.length_map, HLM.out.2] at h5
                        unfold Hid
                        rw [piecesI_eq hK]
                        omega
                      clear hmany hsm
                      go_wp2_with fail
                      go_ret2
                      exact ⟨_, [], by rw [decide_eq_false HMA.out]; rfl, Polys.nil _ _ _ _, by rw [if_neg HMA.out]; rfl, B1.out.trans (B6.out.mono B1.out.size)⟩
                    · have hdm : decide ((sm : Int) > 4096) = false := by simp; omega
                      have hsm4 : sm ≤ 4096 := by omega
                      clear hmany hsm
                      go_wp2_with fail
                      exact ⟨⟨k + 1, s1, va, sm, vc, by first | rfl | rw [hw3], by first | rfl | rw [hwa], rfl, hsm4, HN1.out.1, HN1.out.2.2.2, B6.out, _, P6.out, HLM.out.1, HLM.out.2⟩, by simp only [intOf]; have := HN1.out; have := HKB.out; omega⟩
        · have hd : decide (sk < al) = false := by simp; omega
          have HPI : Hid (piecesI S W = doneI S W k) := piecesI_eq ⟨by rw [HAL.out.1]; exact hv.out.2.1, by rw [HAL.out.1, hv.out.1]; omega⟩
          have HLE : Hid ((piecesI S W).length ≤ 4096) := by
            unfold Hid
            rw [HPI.out]
            obtain ⟨SS, _, h1, h2⟩ := hv.out.2.2.2
            rw [← h1, List.length_map, h2]; exact hsn
          clear hlt hkb hab
          go_wp2_with fail
          go_ret2
          obtain ⟨SS, h1, h2, _⟩ := hv.out.2.2.2
          refine ⟨_, SS, by rw [decide_eq_true HLE.out]; rfl, h1.base (Nat.zero_le _), ?_, B1.out.trans (hv.out.2.2.1.mono B1.out.size)⟩
          rw [if_pos HLE.out, h2, HPI.out]
end Go.Proofs.Ytclkkdhfdoidfaa
