/- Layer 12: package disk: bytes cloned, and laid over others. -/
import Derived.Test.YtdcjchakgfpgaaaCa
import Derived.Laws.CopyOwn
import Derived.Deep.RegionWith
import Derived.Lib.SliceRun
namespace Go.Proofs.Ytdcjchakgfpgaaa
open Go.RowKit
theorem RowB.news {w : World} {s : Value} {E : List Int} (h : RowB w s E) : (s = .slice none 0 0 ∧ E = []) ∨ ∃ ad c, s = .slice (some ad) E.length c ∧ ∀ j u, (bytV E)[j]? = some u → w.cell? (ad.add j) = some u := by
  rcases h with h | ⟨a, c, rfl, rfl⟩ | ⟨b, o, c, rfl, hb, hc⟩
  · exact .inl h
  · exact .inr ⟨a, c, rfl, fun j u hj => by simp [bytV] at hj⟩
  · refine .inr ⟨⟨b, o, none⟩, c, rfl, fun j u hj => ?_⟩
    unfold bytV at hj
    rw [List.getElem?_map] at hj
    cases hx : E[j]? with
    | none => rw [hx] at hj; cases hj
    | some x =>
      rw [hx] at hj
      obtain rfl := Option.some.inj hj
      rw [show (⟨b, o, none⟩ : Addr).add j = ⟨b, o + j, none⟩ from Addr.add_lit ..]
      exact hc j x hx
set_option maxHeartbeats 4000000 in
set_option maxRecDepth 100000 in
theorem clone_c (s : Value) (E : List Int) (w : World) (row : RowB w s E) (hl : E.length ≤ 100000) : Calls Try.prog 43 #[s] w fun e w' => ∃ v, e = .returned v ∧ OwnB w' w.heap.size v E ∧ Below w.heap.size w w' := by
  rcases row.news with ⟨rfl, rfl⟩ | ⟨ad, c, rfl, hx⟩
  · clear row
    have he : ∀ W : World, (binOp .eql 24 (.slice none 0 0) (.slice none 0 0)).run Try.prog W = .ok (.bool true) W := fun W => Lib.run_eql_slice_nil W _ 5 none 0 0 0 0 Try.underlying24
    go_enter Try.func43, Try.ntmps43
    go_wp2_with fail
    go_ret
    exact ⟨_, rfl, World.ownsRow_nil _ _ _ _, Below.refl _ _⟩
  · have h0 : OwnB (w.alloc (.cells #[] 5)) w.heap.size (.slice (some ⟨w.heap.size, 0, none⟩) 0 0) [] := OwnB.made w (Nat.le_refl _) [] 0 #[] rfl rfl (by decide)
    have hx2 : ∀ j u, (bytV E)[j]? = some u → (w.alloc (.cells #[] 5)).cell? (ad.add j) = some u := fun j u hj => by
      have hc := hx j u hj
      have hlt : (ad.add j).block < w.heap.size := by
        rcases Nat.lt_or_ge (ad.add j).block w.heap.size with h' | h'
        · exact h'
        · simp [World.cell?, Array.getElem?_eq_none h'] at hc
      rw [← hc]
      simp only [World.cell?, World.alloc, Array.getElem?_push, Nat.ne_of_lt hlt, if_false]
    have H0 := Lib.hid h0
    have HX := Lib.hid hx2
    have HL := Lib.hid hl
    have HB0 : Hid (Below w.heap.size w (w.alloc (.cells #[] 5))) := (Below.refl _ _).alloc (Nat.le_refl _) _
    have he : ∀ W : World, (binOp .eql 24 (.slice (some ad) E.length c) (.slice none 0 0)).run Try.prog W = .ok (.bool false) W := fun W => Lib.run_eql_slice_nil W _ 5 (some ad) E.length c 0 0 Try.underlying24
    clear row hx hx2 h0 hl
    go_enter Try.func43, Try.ntmps43
    go_wp2_with (at_builtin; refine wpList_append_byts rfl _ _ 24 rfl Try.underlying24 w.heap.size _ [] rfl H0.out ad _ _ E rfl rfl HX.out (by simpa using HL.out) HB0.out.size ?_)
    intro v' w2 h2 hg _
    have HS : Hid (OwnB w2 w.heap.size v' E ∧ Below w.heap.size w w2) := ⟨by simpa using h2, own_below H0.out hg HB0.out (Nat.le_refl _) HB0.out.size⟩
    clear h2 hg
    go_wp2_with fail
    go_ret
    exact ⟨_, rfl, HS.out⟩
theorem OwnB.form {w : World} {base : Nat} {v : Value} {E : List Int} (h : OwnB w base v E) (h0 : 0 < E.length) : ∃ g c, v = .slice (some ⟨g, 0, none⟩) E.length c ∧ E.length ≤ c ∧ g < w.heap.size := by
  obtain ⟨_, ⟨rfl, hn⟩ | ⟨g, cap, cur, rfl, _, hg, hc, _⟩⟩ := h
  · omega
  · exact ⟨g, cap, rfl, hc, (Array.getElem?_eq_some_iff.1 hg).1⟩
theorem layB_nil (A : List Int) (q : Int) : layB A [] q = A := by
  apply List.ext_getElem?
  intro i
  by_cases h : i < A.length
  · unfold layB layTo
    rw [List.getElem?_map, List.getElem?_range h, Option.map_some, bAt_some h]
    unfold layV
    rw [if_neg (by simp)]
  · rw [List.getElem?_eq_none (by rw [layB_len]; omega), List.getElem?_eq_none (by omega)]
theorem layB_splice (A B : List Int) (off : Nat) (h : off + B.length ≤ A.length) : splice A off B = layB A B (off : Int) := by
  apply List.ext_getElem?
  intro i
  by_cases hi : i < A.length
  · unfold layB layTo
    rw [List.getElem?_map, List.getElem?_range hi, Option.map_some]
    unfold layV splice
    by_cases h1 : (off : Int) ≤ (i : Int) ∧ (i : Int) < (off : Int) + B.length
    · rw [if_pos h1, List.getElem?_append_right (by simp; omega), List.getElem?_append_left (by simp; omega), ← bAt_some (by omega)]
      congr 1
      simp
      omega
    · rw [if_neg h1, ← bAt_some hi]
      by_cases h2 : i < off
      · rw [List.getElem?_append_left (by simp; omega), List.getElem?_take]
        simp [h2]
      · rw [List.getElem?_append_right (by simp; omega), List.getElem?_append_right (by simp; omega), List.getElem?_drop]
        congr 1
        simp
        omega
  · rw [List.getElem?_eq_none (by rw [length_splice _ _ _ h]; omega), List.getElem?_eq_none (by rw [layB_len]; omega)]
theorem splice_map (A B : List Int) (off : Nat) : splice (bytV A) off (bytV B) = bytV (splice A off B) := by
  unfold splice bytV
  simp only [List.map_append, List.map_take, List.map_drop, List.length_map]
theorem take_splice (X Y : List Value) (off n : Nat) (h : off + Y.length ≤ n) (hn : n ≤ X.length) : (splice X off Y).take n = splice (X.take n) off Y := by
  unfold splice
  rw [List.take_append, List.take_append, List.take_take, List.length_take, Nat.min_eq_left (show off ≤ X.length by omega), List.take_take, Nat.min_eq_right (show off ≤ n by omega), Nat.min_eq_left (show off ≤ n by omega), List.take_of_length_le (show Y.length ≤ n - off by omega)]
  congr 2
  rw [List.drop_take]
  congr 1
  omega
/-- A row of bytes of which some are laid over. -/
theorem OwnB.laid {w : World} {base g n c : Nat} {A B : List Int} (h : OwnB w base (.slice (some ⟨g, 0, none⟩) n c) A) (off : Nat) (hf : off + B.length ≤ n) :
    ∃ cur, w.heap[g]? = some (.cells cur 5 (0, 0)) ∧ off + B.length ≤ cur.size ∧ OwnB (w.setRow g (splice cur.toList off (bytV B)).toArray) base (.slice (some ⟨g, 0, none⟩) n c) (layB A B (off : Int)) := by
  obtain ⟨hl, ⟨e, _⟩ | ⟨g', cap, cur, e, hb, hg, hc, hm, hs, ht⟩⟩ := h
  · cases e
  · cases e
    have hz : A.length ≤ cur.toList.length := by simp; omega
    refine ⟨cur, hg, by omega, ?_⟩
    unfold OwnB World.ownsRow
    rw [layB_len]
    have hfl : off + (bytV B).length ≤ cur.toList.length := by simp [bytV]; omega
    refine ⟨by simp [layB_len], .inr ⟨g, c, _, rfl, hb, setRow_heap w g cur _ _ _ hg, hc, hm, by rw [List.size_toArray, length_splice _ _ _ hfl]; simpa using hs, ?_⟩⟩
    rw [Nat.mul_one] at ht ⊢
    rw [take_splice _ _ _ _ (by simpa [bytV] using hf) hz, ht, splice_map, layB_splice A B off hf]
theorem wp_copy_lay {o : Oper} {a : Act} {w : World} {K : Act → World → Prop} {Q : Exit → Act → World → Prop} (d s : Operand)
    (ho : o.op = .call { callee := .builtin .copy, args := #[d, s], argTypes := #[24, 24] }) (g n c : Nat) (A B : List Int) (hown : OwnB w 0 (.slice (some ⟨g, 0, none⟩) n c) A) (off dl dc sc : Nat) (so : Option Addr)
    (hd : a.eval d = .slice (some ⟨g, off, none⟩) dl dc) (hdl : off + dl = n) (hs : a.eval s = .slice so B.length sc) (row : RowB w (.slice so B.length sc) B) (hfit : B.length ≤ dl)
    (h : ∀ w', OwnB w' 0 (.slice (some ⟨g, 0, none⟩) n c) (layB A B (off : Int)) → Keep (fun k => k ≠ g) w w' → K (a.put o.dst (goInt B.length)) w') : o.wp Try.prog a w K Q := by
  obtain ⟨i, hi, hz0, hz1, hz2⟩ := info_parts infoB
  have hsz : (Try.prog.info? 5).map (·.size) = some 1 := by rw [hi]; simp [hz1]
  have hmin : Nat.min B.length dl = B.length := Nat.min_eq_left hfit
  by_cases h0 : B.length = 0
  · have hB : B = [] := List.eq_nil_of_length_eq_zero h0
    have hrun := run_copy_none (P := Try.prog) w 24 24 o.type 5 (some ⟨g, off, none⟩) so dl dc B.length sc Try.underlying24 hsz (by rw [hmin]; exact h0)
    unfold Oper.wp
    simp [execOp, ho, resolve, invoke, builtin, hd, hs, hrun, Result.andThen]
    have hk := h w (by rw [hB, layB_nil]; exact hown) (Keep.refl _ _)
    rw [h0] at hk
    exact hk
  · obtain ⟨sb, sof, rfl, hsb, hcell⟩ := row.addr (by omega)
    obtain ⟨cur, hg, hcur, hlaid⟩ := hown.laid (B := B) off (by omega)
    have hrun := run_copy_row (P := Try.prog) w 24 24 o.type 5 g off dl dc ⟨sb, sof, none⟩ B.length sc cur 5 (bytV B) Try.underlying24 hsz hg (by simp [bytV, hmin]) (fun j u hj => by
      unfold bytV at hj
      rw [List.getElem?_map] at hj
      cases hx : B[j]? with
      | none => rw [hx] at hj; cases hj
      | some x =>
        rw [hx] at hj
        obtain rfl := Option.some.inj hj
        rw [show (⟨sb, sof, none⟩ : Addr).add j = ⟨sb, sof + j, none⟩ from Addr.add_lit ..]
        exact hcell j x hx) (by simpa [bytV] using hcur) (fun u hu => by
      unfold bytV at hu
      obtain ⟨x, _, rfl⟩ := List.mem_map.1 hu; rfl)
    have hrun2 : (Builtin.copy_ #[24, 24] o.type #[.slice (some ⟨g, off, none⟩) dl dc, .slice (some ⟨sb, sof, none⟩) B.length sc]).run Try.prog w = .ok (goInt B.length) (w.setRow g (splice cur.toList off (bytV B)).toArray) := by
      simpa [splice, bytV] using hrun
    have hk := h _ hlaid ⟨rfl, rfl, rfl, by simp [World.setRow], fun k hk _ => setRow_other w g k _ hk⟩
    unfold Oper.wp
    simp [execOp, ho, resolve, invoke, builtin, hd, hs, hrun2, Result.andThen]
    exact hk
theorem OwnB.cut0 {w : World} {base b z bc : Nat} {B : List Int} (h : OwnB w base (.slice (some ⟨b, 0, none⟩) z bc) B) (m : Nat) (hm : m ≤ z) : (B.take m).length = m ∧ RowB w (.slice (some ⟨b, 0, none⟩) (B.take m).length bc) (B.take m) := by
  obtain ⟨a, c, e⟩ := h.shape
  have hz : B.length = z := by cases e; rfl
  have hr := h.row
  have hlen : (B.take m).length = m := by rw [List.length_take]; omega
  refine ⟨hlen, ?_⟩
  rcases hr with ⟨e, _⟩ | ⟨a, c, e, hB⟩ | ⟨b', o, c, e, hb, hc⟩
  · cases e
  · have : B.length = 0 := by rw [hB]; rfl
    have hm0 : m = 0 := by omega
    exact .inr (.inl ⟨_, _, by rw [hlen, hm0], by rw [hm0]; rfl⟩)
  · cases e
    exact .inr (.inr ⟨b, 0, bc, rfl, hb, fun i x hx => hc i x (by
      rw [List.getElem?_take] at hx
      split at hx
      · exact hx
      · cases hx)⟩)
set_option maxHeartbeats 4000000 in
set_option maxRecDepth 100000 in
theorem layK_c (w : World) (g n c : Nat) (A : List Int) (own : OwnB w 0 (.slice (some ⟨g, 0, none⟩) n c) A) (b z bc : Nat) (B : List Int) (ownB : OwnB w 0 (.slice (some ⟨b, 0, none⟩) z bc) B) (i m : Nat) (hz : 1 ≤ z) (hfit : i * z + z ≤ n) (hn : n ≤ 100000) (hm : m ≤ z) :
    Calls Try.prog 45 #[.agg #[.int .i64 (i : Int), .slice (some ⟨b, 0, none⟩) z bc], .slice (some ⟨g, 0, none⟩) n c, .int .i64 (m : Int)] w fun e w' => e = .returned (.tuple #[]) ∧ OwnB w' 0 (.slice (some ⟨g, 0, none⟩) n c) (layB A (B.take m) ((i * z : Nat) : Int)) ∧ Keep (fun k => k ≠ g) w w' := by
  obtain ⟨q, hq⟩ : ∃ q, i * z = q := ⟨_, rfl⟩
  have HQ := Lib.hid hq
  have hqz : (i : Int) * (z : Int) = (q : Int) := by rw [← hq]; simp
  have e1 : wrap64 ((i : Int) * (z : Int)) = (q : Int) := by rw [hqz]; exact wrapR _ (by omega) (by omega)
  have E2 : Hid (IntKind.i64.wrap ((i : Int) * (z : Int)) = (q : Int)) := (wrap_is _).trans e1
  have hnc : n ≤ c := own.cap _ _ _ rfl
  have hzc : z ≤ bc := ownB.cap _ _ _ rfl
  have QS : Hid ((0 : Int) ≤ (q : Int) ∧ (q : Int) ≤ (n : Int) ∧ q ≤ n ∧ ¬ c = q ∧ q + (n - q) = n ∧ (B.take m).length ≤ n - q) := ⟨by omega, by omega, by omega, by omega, by omega, by rw [(ownB.cut0 m hm).1]; omega⟩
  have QT : Hid ((0 : Int) ≤ (m : Int) ∧ (m : Int) ≤ (bc : Int) ∧ m ≤ bc ∧ ¬ bc = 0) := ⟨by omega, by omega, by omega, by omega⟩
  have hgl := own.lt g rfl
  have hbl := ownB.lt b rfl
  obtain ⟨w1, hw1⟩ : ∃ WW, w.alloc (.cells #[.int .i64 (i : Int), .slice (some ⟨b, 0, none⟩) z bc] 81) = WW := ⟨_, rfl⟩
  have W1 : Hid (Below w.heap.size w w1 ∧ Blk w1 w.heap.size 81 #[.int .i64 (i : Int), .slice (some ⟨b, 0, none⟩) z bc]) := by
    rw [← hw1]; exact ⟨(Below.refl _ _).alloc (Nat.le_refl _) _, Blk.new _ _ _⟩
  have HC9 : Hid (∀ W, Below w1.heap.size w1 W → Blk W w.heap.size 81 #[.int .i64 (i : Int), .slice (some ⟨b, 0, none⟩) z bc]) := fun W hW => W1.out.2.grow hW
  have HOG : Hid (∀ W, Below w1.heap.size w1 W → OwnB W 0 (.slice (some ⟨g, 0, none⟩) n c) A) := fun W hW => (own.grow W1.out.1).grow hW
  have HOB : Hid (∀ W, Below w1.heap.size w1 W → RowB W (.slice (some ⟨b, 0, none⟩) (B.take m).length bc) (B.take m)) := fun W hW => (((ownB.grow W1.out.1).grow hW).cut0 m hm).2
  have HCT : Hid ((Value.slice (some ⟨b, 0, none⟩) (B.take m).length bc) = .slice (some ⟨b, 0, none⟩) m bc) := by rw [(ownB.cut0 m hm).1]; exact rfl
  have KK : Hid (∀ W, Keep (fun k => k ≠ g) w1 W → Keep (fun k => k ≠ g) w W) := fun W hW => (Keep.of_below W1.out.1).trans hW
  have KB : Hid (∀ W, Below w1.heap.size w1 W → Keep (fun k => k ≠ g) w W) := fun W hW => KK.out W (Keep.of_below hW)
  clear own ownB hz hfit hn hm hqz hnc hzc hgl hbl hq
  go_enter Try.func45, Try.ntmps45
  go_upto_region 1 with fail
  clear hw1 e1
  refine wp_region_put (by kernel_rfl) (by kernel_rfl) (by kernel_rfl) (fun b' vs w' => (b' 0 = true → vs 0 = .slice (some ⟨g, 0, none⟩) n c) ∧ (b' 1 = true → vs 1 = .pointer (some ⟨w.heap.size, 0, none⟩)) ∧ (b' 2 = true → vs 2 = .int .i64 (i : Int)) ∧ (b' 3 = true → vs 3 = .pointer (some ⟨w.heap.size, 1, none⟩)) ∧ (b' 4 = true → vs 4 = .slice (some ⟨b, 0, none⟩) z bc) ∧ (b' 5 = true → vs 5 = .int .i64 (z : Int)) ∧ (b' 6 = true → vs 6 = .int .i64 (q : Int)) ∧ (b' 7 = true → vs 7 = .slice (some ⟨g, q, none⟩) (n - q) (c - q)) ∧ (b' 8 = true → vs 8 = .pointer (some ⟨w.heap.size, 1, none⟩)) ∧ (b' 9 = true → vs 9 = .slice (some ⟨b, 0, none⟩) z bc) ∧ (b' 10 = true → vs 10 = .int .i64 (m : Int)) ∧ (b' 11 = true → vs 11 = .slice (some ⟨b, 0, none⟩) m bc) ∧ (b' 12 = false → Hid (Below w1.heap.size w1 w' ∧ w1.heap.size ≤ w'.heap.size)) ∧ (b' 12 = true → Hid (OwnB w' 0 (.slice (some ⟨g, 0, none⟩) n c) (layB A (B.take m) (q : Int)) ∧ Keep (fun k => k ≠ g) w w')) ∧ (b' 7 = true → b' 6 = true) ∧ (b' 6 = true → b' 2 = true) ∧ (b' 6 = true → b' 5 = true) ∧ (b' 5 = true → b' 4 = true) ∧ (b' 11 = true → b' 9 = true) ∧ (b' 12 = true → b' 2 = true) ∧ (b' 12 = true → b' 4 = true) ∧ (b' 12 = true → b' 9 = true)) ?_ ?_ ?_
  · intro vs
    exact ⟨fun h => Bool.noConfusion h, fun h => Bool.noConfusion h, fun h => Bool.noConfusion h, fun h => Bool.noConfusion h, fun h => Bool.noConfusion h, fun h => Bool.noConfusion h, fun h => Bool.noConfusion h, fun h => Bool.noConfusion h, fun h => Bool.noConfusion h, fun h => Bool.noConfusion h, fun h => Bool.noConfusion h, fun h => Bool.noConfusion h, fun _ => Lib.hid ⟨below_drewN (Below.refl _ _) 1, Nat.le_refl _⟩, fun h => Bool.noConfusion h, fun h => Bool.noConfusion h, fun h => Bool.noConfusion h, fun h => Bool.noConfusion h, fun h => Bool.noConfusion h, fun h => Bool.noConfusion h, fun h => Bool.noConfusion h, fun h => Bool.noConfusion h, fun h => Bool.noConfusion h⟩
  · rintro b' vs w' i op hi hun hall ⟨h0, h1, h2, h3, h4, h5, h6, h7, h8, h9, h10, h11, hB, hG, hE7_6, hE6_2, hE6_5, hE5_4, hE11_9, hW2, hW4, hW9⟩
    have hil : i < 13 := (List.getElem?_eq_some_iff.1 hi).1
    rcases i with _ | _ | _ | _ | _ | _ | _ | _ | _ | _ | _ | _ | _ | i
    · obtain rfl := Option.some.inj hi
      clear hi hil
      refine wpOp_step rfl (fun K hK => ?_)
      have HKK := Lib.hid hK; clear hK
      simp only [putAll, Act.put, List.setIfInBounds_toArray, List.set_cons_zero, List.set_cons_succ]
      go_simp
      exact HKK.out _ _ ⟨_, by simp only [putAll, Act.put, List.setIfInBounds_toArray, List.set_cons_zero, List.set_cons_succ] <;> rfl, fun _ => rfl, h1, h2, h3, h4, h5, h6, h7, h8, h9, h10, h11, hB, hG, hE7_6, hE6_2, hE6_5, hE5_4, hE11_9, hW2, hW4, hW9⟩
    · obtain rfl := Option.some.inj hi
      clear hi hil
      refine wpOp_step rfl (fun K hK => ?_)
      have HKK := Lib.hid hK; clear hK
      simp only [putAll, Act.put, List.setIfInBounds_toArray, List.set_cons_zero, List.set_cons_succ]
      go_simp
      exact HKK.out _ _ ⟨_, by simp only [putAll, Act.put, List.setIfInBounds_toArray, List.set_cons_zero, List.set_cons_succ] <;> rfl, h0, fun _ => rfl, h2, h3, h4, h5, h6, h7, h8, h9, h10, h11, hB, hG, hE7_6, hE6_2, hE6_5, hE5_4, hE11_9, hW2, hW4, hW9⟩
    · obtain rfl := Option.some.inj hi
      clear hi hil
      have hap : b' 12 = false := by
        cases hz : b' 12 with
        | false => rfl
        | true => exact absurd (hW2 hz) (by rw [hun]; decide)
      have d1 := h1 (hall ⟨1, .data⟩ (by simp) rfl)
      have m0 := (HC9.out w' (hB hap).out.1).cell 0
      refine wpOp_step rfl (fun K hK => ?_)
      have HKK := Lib.hid hK; clear hK
      simp only [putAll, Act.put, List.setIfInBounds_toArray, List.set_cons_zero, List.set_cons_succ]
      go_simp
      exact HKK.out _ _ ⟨_, by simp only [putAll, Act.put, List.setIfInBounds_toArray, List.set_cons_zero, List.set_cons_succ, d1] <;> rfl, h0, h1, fun _ => rfl, h3, h4, h5, h6, h7, h8, h9, h10, h11, hB, hG, hE7_6, fun _ => rfl, hE6_5, hE5_4, hE11_9, fun _ => rfl, hW4, hW9⟩
    · obtain rfl := Option.some.inj hi
      clear hi hil
      refine wpOp_step rfl (fun K hK => ?_)
      have HKK := Lib.hid hK; clear hK
      simp only [putAll, Act.put, List.setIfInBounds_toArray, List.set_cons_zero, List.set_cons_succ]
      go_simp
      exact HKK.out _ _ ⟨_, by simp only [putAll, Act.put, List.setIfInBounds_toArray, List.set_cons_zero, List.set_cons_succ] <;> rfl, h0, h1, h2, fun _ => rfl, h4, h5, h6, h7, h8, h9, h10, h11, hB, hG, hE7_6, hE6_2, hE6_5, hE5_4, hE11_9, hW2, hW4, hW9⟩
    · obtain rfl := Option.some.inj hi
      clear hi hil
      have hap : b' 12 = false := by
        cases hz : b' 12 with
        | false => rfl
        | true => exact absurd (hW4 hz) (by rw [hun]; decide)
      have d3 := h3 (hall ⟨3, .data⟩ (by simp) rfl)
      have m1 := (HC9.out w' (hB hap).out.1).cell 1
      refine wpOp_step rfl (fun K hK => ?_)
      have HKK := Lib.hid hK; clear hK
      simp only [putAll, Act.put, List.setIfInBounds_toArray, List.set_cons_zero, List.set_cons_succ]
      go_simp
      exact HKK.out _ _ ⟨_, by simp only [putAll, Act.put, List.setIfInBounds_toArray, List.set_cons_zero, List.set_cons_succ, d3] <;> rfl, h0, h1, h2, h3, fun _ => rfl, h5, h6, h7, h8, h9, h10, h11, hB, hG, hE7_6, hE6_2, hE6_5, fun _ => rfl, hE11_9, hW2, fun _ => rfl, hW9⟩
    · obtain rfl := Option.some.inj hi
      clear hi hil
      have d4 := h4 (hall ⟨4, .data⟩ (by simp) rfl)
      refine wpOp_step rfl (fun K hK => ?_)
      have HKK := Lib.hid hK; clear hK
      simp only [putAll, Act.put, List.setIfInBounds_toArray, List.set_cons_zero, List.set_cons_succ]
      go_simp
      exact HKK.out _ _ ⟨_, by simp only [putAll, Act.put, List.setIfInBounds_toArray, List.set_cons_zero, List.set_cons_succ, d4] <;> rfl, h0, h1, h2, h3, h4, fun _ => rfl, h6, h7, h8, h9, h10, h11, hB, hG, hE7_6, hE6_2, fun _ => rfl, fun _ => hall ⟨4, .data⟩ (by simp) rfl, hE11_9, hW2, hW4, hW9⟩
    · obtain rfl := Option.some.inj hi
      clear hi hil
      have d2 := h2 (hall ⟨2, .data⟩ (by simp) rfl)
      have d5 := h5 (hall ⟨5, .data⟩ (by simp) rfl)
      refine wpOp_step rfl (fun K hK => ?_)
      have HKK := Lib.hid hK; clear hK
      simp only [putAll, Act.put, List.setIfInBounds_toArray, List.set_cons_zero, List.set_cons_succ]
      go_simp
      exact HKK.out _ _ ⟨_, by simp only [putAll, Act.put, List.setIfInBounds_toArray, List.set_cons_zero, List.set_cons_succ, d2, d5, E2.out] <;> rfl, h0, h1, h2, h3, h4, h5, fun _ => rfl, h7, h8, h9, h10, h11, hB, hG, fun _ => rfl, fun _ => hall ⟨2, .data⟩ (by simp) rfl, fun _ => hall ⟨5, .data⟩ (by simp) rfl, hE5_4, hE11_9, hW2, hW4, hW9⟩
    · obtain rfl := Option.some.inj hi
      clear hi hil
      have d0 := h0 (hall ⟨0, .data⟩ (by simp) rfl)
      have d6 := h6 (hall ⟨6, .data⟩ (by simp) rfl)
      obtain ⟨q0, q1, q2, q3⟩ := QS.out
      refine wpOp_step rfl (fun K hK => ?_)
      have HKK := Lib.hid hK; clear hK
      simp only [putAll, Act.put, List.setIfInBounds_toArray, List.set_cons_zero, List.set_cons_succ]
      go_simp
      exact HKK.out _ _ ⟨_, by simp only [putAll, Act.put, List.setIfInBounds_toArray, List.set_cons_zero, List.set_cons_succ, d0, d6] <;> rfl, h0, h1, h2, h3, h4, h5, h6, fun _ => rfl, h8, h9, h10, h11, hB, hG, fun _ => hall ⟨6, .data⟩ (by simp) rfl, hE6_2, hE6_5, hE5_4, hE11_9, hW2, hW4, hW9⟩
    · obtain rfl := Option.some.inj hi
      clear hi hil
      refine wpOp_step rfl (fun K hK => ?_)
      have HKK := Lib.hid hK; clear hK
      simp only [putAll, Act.put, List.setIfInBounds_toArray, List.set_cons_zero, List.set_cons_succ]
      go_simp
      exact HKK.out _ _ ⟨_, by simp only [putAll, Act.put, List.setIfInBounds_toArray, List.set_cons_zero, List.set_cons_succ] <;> rfl, h0, h1, h2, h3, h4, h5, h6, h7, fun _ => rfl, h9, h10, h11, hB, hG, hE7_6, hE6_2, hE6_5, hE5_4, hE11_9, hW2, hW4, hW9⟩
    · obtain rfl := Option.some.inj hi
      clear hi hil
      have hap : b' 12 = false := by
        cases hz : b' 12 with
        | false => rfl
        | true => exact absurd (hW9 hz) (by rw [hun]; decide)
      have d8 := h8 (hall ⟨8, .data⟩ (by simp) rfl)
      have m1 := (HC9.out w' (hB hap).out.1).cell 1
      refine wpOp_step rfl (fun K hK => ?_)
      have HKK := Lib.hid hK; clear hK
      simp only [putAll, Act.put, List.setIfInBounds_toArray, List.set_cons_zero, List.set_cons_succ]
      go_simp
      exact HKK.out _ _ ⟨_, by simp only [putAll, Act.put, List.setIfInBounds_toArray, List.set_cons_zero, List.set_cons_succ, d8] <;> rfl, h0, h1, h2, h3, h4, h5, h6, h7, h8, fun _ => rfl, h10, h11, hB, hG, hE7_6, hE6_2, hE6_5, hE5_4, fun _ => rfl, hW2, hW4, fun _ => rfl⟩
    · obtain rfl := Option.some.inj hi
      clear hi hil
      refine wpOp_step rfl (fun K hK => ?_)
      have HKK := Lib.hid hK; clear hK
      simp only [putAll, Act.put, List.setIfInBounds_toArray, List.set_cons_zero, List.set_cons_succ]
      go_simp
      exact HKK.out _ _ ⟨_, by simp only [putAll, Act.put, List.setIfInBounds_toArray, List.set_cons_zero, List.set_cons_succ] <;> rfl, h0, h1, h2, h3, h4, h5, h6, h7, h8, h9, fun _ => rfl, h11, hB, hG, hE7_6, hE6_2, hE6_5, hE5_4, hE11_9, hW2, hW4, hW9⟩
    · obtain rfl := Option.some.inj hi
      clear hi hil
      have d9 := h9 (hall ⟨9, .data⟩ (by simp) rfl)
      have d10 := h10 (hall ⟨10, .data⟩ (by simp) rfl)
      obtain ⟨q0, q1, q2, q3⟩ := QT.out
      refine wpOp_step rfl (fun K hK => ?_)
      have HKK := Lib.hid hK; clear hK
      simp only [putAll, Act.put, List.setIfInBounds_toArray, List.set_cons_zero, List.set_cons_succ]
      go_simp
      exact HKK.out _ _ ⟨_, by simp only [putAll, Act.put, List.setIfInBounds_toArray, List.set_cons_zero, List.set_cons_succ, d9, d10] <;> rfl, h0, h1, h2, h3, h4, h5, h6, h7, h8, h9, h10, fun _ => rfl, hB, hG, hE7_6, hE6_2, hE6_5, hE5_4, fun _ => hall ⟨9, .data⟩ (by simp) rfl, hW2, hW4, hW9⟩
    · obtain rfl := Option.some.inj hi
      clear hi hil
      have hap : b' 12 = false := hun
      have d7 := h7 (hall ⟨7, .data⟩ (by simp) rfl)
      have d11 := h11 (hall ⟨11, .data⟩ (by simp) rfl)
      have hA := HOG.out w' (hB hap).out.1
      have hR := HOB.out w' (hB hap).out.1
      refine wpOp_step rfl (fun K hK => ?_)
      have HKK := Lib.hid hK; clear hK
      simp only [putAll, Act.put, List.setIfInBounds_toArray, List.set_cons_zero, List.set_cons_succ]
      refine (if_pos rfl).mpr (wp_copy_lay _ _ rfl g n c A (B.take m) hA q (n - q) (c - q) bc (some ⟨b, 0, none⟩) d7 QS.out.2.2.2.2.1 (d11.trans HCT.out.symm) hR QS.out.2.2.2.2.2 ?_)
      intro w2 ho2 hk2
      exact HKK.out _ _ ⟨_, by simp only [putAll, Act.put, List.setIfInBounds_toArray, List.set_cons_zero, List.set_cons_succ, d7, d11] <;> rfl, h0, h1, h2, h3, h4, h5, h6, h7, h8, h9, h10, h11, fun h => Bool.noConfusion h, fun _ => Lib.hid (⟨ho2, (KB.out w' (hB hap).out.1).trans hk2⟩), hE7_6, hE6_2, hE6_5, hE5_4, hE11_9, fun _ => hE6_2 (hE7_6 (hall ⟨7, .data⟩ (by simp) rfl)), fun _ => hE5_4 (hE6_5 (hE7_6 (hall ⟨7, .data⟩ (by simp) rfl))), fun _ => hE11_9 (hall ⟨11, .data⟩ (by simp) rfl)⟩
    · omega
  · rintro b' vs wz hall ⟨h0, h1, h2, h3, h4, h5, h6, h7, h8, h9, h10, h11, hB, hG, hE7_6, hE6_2, hE6_5, hE5_4, hE11_9, hW2, hW4, hW9⟩
    have d0 := h0 (hall 0 (by simp))
    have d1 := h1 (hall 1 (by simp))
    have d2 := h2 (hall 2 (by simp))
    have d3 := h3 (hall 3 (by simp))
    have d4 := h4 (hall 4 (by simp))
    have d5 := h5 (hall 5 (by simp))
    have d6 := h6 (hall 6 (by simp))
    have d7 := h7 (hall 7 (by simp))
    have d8 := h8 (hall 8 (by simp))
    have d9 := h9 (hall 9 (by simp))
    have d10 := h10 (hall 10 (by simp))
    have d11 := h11 (hall 11 (by simp))
    have GG := hG (hall 12 (by simp))
    simp only [putAll, Act.put, List.setIfInBounds_toArray, List.set_cons_zero, List.set_cons_succ, d0, d1, d2, d3, d4, d5, d6, d7, d8, d9, d10, d11]
    clear hall h0 d0 h1 d1 h2 d2 h3 d3 h4 d4 h5 d5 h6 d6 h7 d7 h8 d8 h9 d9 h10 d10 h11 d11 hB hG hE7_6 hE6_2 hE6_5 hE5_4 hE11_9 hW2 hW4 hW9
    have H2 := Lib.hid GG.out
    clear GG
    go_wp2_with fail
    go_end0
    exact ⟨rfl, by rw [HQ.out]; exact H2.out.1, H2.out.2⟩
end Go.Proofs.Ytdcjchakgfpgaaa
