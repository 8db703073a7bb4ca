/- Layer 12: package disk: bytes cloned, and laid over others. -/
import Derived.Test.YteobffggfcmghaaDoorAa
import Derived.Laws.CopyOwn
import Derived.Deep.RegionWith
import Derived.Lib.SliceRun
namespace Go.Proofs.YteobffggfcmghaaDoor
open Go.RowKit
theorem RowB.news {w : World} {s : Value} {E : List Int} (h : RowB w s E) : (s = .slice none 0 0 ∧ E = []) ∨ ∃ ad c, s = .slice (some ad) E.length c ∧ ∀ j u, (bytV E)[j]? = some u → w.cell? (ad.add j) = some u := by
  rcases h with h | ⟨a, c, rfl, rfl⟩ | ⟨b, o, c, rfl, hb, hc⟩
  · exact .inl h
  · exact .inr ⟨a, c, rfl, fun j u hj => by simp [bytV] at hj⟩
  · refine .inr ⟨⟨b, o, none⟩, c, rfl, fun j u hj => ?_⟩
    unfold bytV at hj
    rw [List.getElem?_map] at hj
    cases hx : E[j]? with
    | none => rw [hx] at hj; cases hj
    | some x =>
      rw [hx] at hj
      obtain rfl := Option.some.inj hj
      rw [show (⟨b, o, none⟩ : Addr).add j = ⟨b, o + j, none⟩ from Addr.add_lit ..]
      exact hc j x hx
set_option maxHeartbeats 4000000 in
set_option maxRecDepth 100000 in
theorem clone_c (s : Value) (E : List Int) (w : World) (row : RowB w s E) (hl : E.length ≤ 100000) : Calls Tryd.prog 30 #[s] w fun e w' => ∃ v, e = .returned v ∧ OwnB w' w.heap.size v E ∧ Below w.heap.size w w' := by
  rcases row.news with ⟨rfl, rfl⟩ | ⟨ad, c, rfl, hx⟩
  · clear row
    have he : ∀ W : World, (binOp .eql 22 (.slice none 0 0) (.slice none 0 0)).run Tryd.prog W = .ok (.bool true) W := fun W => Lib.run_eql_slice_nil W _ 5 none 0 0 0 0 Tryd.underlying22
    go_enter Tryd.func30, Tryd.ntmps30
    go_wp2_with fail
    go_ret
    exact ⟨_, rfl, World.ownsRow_nil _ _ _ _, Below.refl _ _⟩
  · have h0 : OwnB (w.alloc (.cells #[] 5)) w.heap.size (.slice (some ⟨w.heap.size, 0, none⟩) 0 0) [] := OwnB.made w (Nat.le_refl _) [] 0 #[] rfl rfl (by decide)
    have hx2 : ∀ j u, (bytV E)[j]? = some u → (w.alloc (.cells #[] 5)).cell? (ad.add j) = some u := fun j u hj => by
      have hc := hx j u hj
      have hlt : (ad.add j).block < w.heap.size := by
        rcases Nat.lt_or_ge (ad.add j).block w.heap.size with h' | h'
        · exact h'
        · simp [World.cell?, Array.getElem?_eq_none h'] at hc
      rw [← hc]
      simp only [World.cell?, World.alloc, Array.getElem?_push, Nat.ne_of_lt hlt, if_false]
    have H0 := Lib.hid h0
    have HX := Lib.hid hx2
    have HL := Lib.hid hl
    have HB0 : Hid (Below w.heap.size w (w.alloc (.cells #[] 5))) := (Below.refl _ _).alloc (Nat.le_refl _) _
    have he : ∀ W : World, (binOp .eql 22 (.slice (some ad) E.length c) (.slice none 0 0)).run Tryd.prog W = .ok (.bool false) W := fun W => Lib.run_eql_slice_nil W _ 5 (some ad) E.length c 0 0 Tryd.underlying22
    clear row hx hx2 h0 hl
    go_enter Tryd.func30, Tryd.ntmps30
    go_wp2_with (at_builtin; refine wpList_append_byts rfl _ _ 22 rfl Tryd.underlying22 w.heap.size _ [] rfl H0.out ad _ _ E rfl rfl HX.out (by simpa using HL.out) HB0.out.size ?_)
    intro v' w2 h2 hg _
    have HS : Hid (OwnB w2 w.heap.size v' E ∧ Below w.heap.size w w2) := ⟨by simpa using h2, own_below H0.out hg HB0.out (Nat.le_refl _) HB0.out.size⟩
    clear h2 hg
    go_wp2_with fail
    go_ret
    exact ⟨_, rfl, HS.out⟩
theorem OwnB.form {w : World} {base : Nat} {v : Value} {E : List Int} (h : OwnB w base v E) (h0 : 0 < E.length) : ∃ g c, v = .slice (some ⟨g, 0, none⟩) E.length c ∧ E.length ≤ c ∧ g < w.heap.size := by
  obtain ⟨_, ⟨rfl, hn⟩ | ⟨g, cap, cur, rfl, _, hg, hc, _⟩⟩ := h
  · omega
  · exact ⟨g, cap, rfl, hc, (Array.getElem?_eq_some_iff.1 hg).1⟩
theorem layB_nil (A : List Int) (q : Int) : layB A [] q = A := by
  apply List.ext_getElem?
  intro i
  by_cases h : i < A.length
  · unfold layB layTo
    rw [List.getElem?_map, List.getElem?_range h, Option.map_some, bAt_some h]
    unfold layV
    rw [if_neg (by simp)]
  · rw [List.getElem?_eq_none (by rw [layB_len]; omega), List.getElem?_eq_none (by omega)]
theorem layB_splice (A B : List Int) (off : Nat) (h : off + B.length ≤ A.length) : splice A off B = layB A B (off : Int) := by
  apply List.ext_getElem?
  intro i
  by_cases hi : i < A.length
  · unfold layB layTo
    rw [List.getElem?_map, List.getElem?_range hi, Option.map_some]
    unfold layV splice
    by_cases h1 : (off : Int) ≤ (i : Int) ∧ (i : Int) < (off : Int) + B.length
    · rw [if_pos h1, List.getElem?_append_right (by simp; omega), List.getElem?_append_left (by simp; omega), ← bAt_some (by omega)]
      congr 1
      simp
      omega
    · rw [if_neg h1, ← bAt_some hi]
      by_cases h2 : i < off
      · rw [List.getElem?_append_left (by simp; omega), List.getElem?_take]
        simp [h2]
      · rw [List.getElem?_append_right (by simp; omega), List.getElem?_append_right (by simp; omega), List.getElem?_drop]
        congr 1
        simp
        omega
  · rw [List.getElem?_eq_none (by rw [length_splice _ _ _ h]; omega), List.getElem?_eq_none (by rw [layB_len]; omega)]
theorem splice_map (A B : List Int) (off : Nat) : splice (bytV A) off (bytV B) = bytV (splice A off B) := by
  unfold splice bytV
  simp only [List.map_append, List.map_take, List.map_drop, List.length_map]
theorem take_splice (X Y : List Value) (off n : Nat) (h : off + Y.length ≤ n) (hn : n ≤ X.length) : (splice X off Y).take n = splice (X.take n) off Y := by
  unfold splice
  rw [List.take_append, List.take_append, List.take_take, List.length_take, Nat.min_eq_left (show off ≤ X.length by omega), List.take_take, Nat.min_eq_right (show off ≤ n by omega), Nat.min_eq_left (show off ≤ n by omega), List.take_of_length_le (show Y.length ≤ n - off by omega)]
  congr 2
  rw [List.drop_take]
  congr 1
  omega
/-- A row of bytes of which some are laid over. -/
theorem OwnB.laid {w : World} {base g n c : Nat} {A B : List Int} (h : OwnB w base (.slice (some ⟨g, 0, none⟩) n c) A) (off : Nat) (hf : off + B.length ≤ n) :
    ∃ cur, w.heap[g]? = some (.cells cur 5 (0, 0)) ∧ off + B.length ≤ cur.size ∧ OwnB (w.setRow g (splice cur.toList off (bytV B)).toArray) base (.slice (some ⟨g, 0, none⟩) n c) (layB A B (off : Int)) := by
  obtain ⟨hl, ⟨e, _⟩ | ⟨g', cap, cur, e, hb, hg, hc, hm, hs, ht⟩⟩ := h
  · cases e
  · cases e
    have hz : A.length ≤ cur.toList.length := by simp; omega
    refine ⟨cur, hg, by omega, ?_⟩
    unfold OwnB World.ownsRow
    rw [layB_len]
    have hfl : off + (bytV B).length ≤ cur.toList.length := by simp [bytV]; omega
    refine ⟨by simp [layB_len], .inr ⟨g, c, _, rfl, hb, setRow_heap w g cur _ _ _ hg, hc, hm, by rw [List.size_toArray, length_splice _ _ _ hfl]; simpa using hs, ?_⟩⟩
    rw [Nat.mul_one] at ht ⊢
    rw [take_splice _ _ _ _ (by simpa [bytV] using hf) hz, ht, splice_map, layB_splice A B off hf]
theorem wp_copy_lay {o : Oper} {a : Act} {w : World} {K : Act → World → Prop} {Q : Exit → Act → World → Prop} (d s : Operand)
    (ho : o.op = .call { callee := .builtin .copy, args := #[d, s], argTypes := #[22, 22] }) (g n c : Nat) (A B : List Int) (hown : OwnB w 0 (.slice (some ⟨g, 0, none⟩) n c) A) (off dl dc sc : Nat) (so : Option Addr)
    (hd : a.eval d = .slice (some ⟨g, off, none⟩) dl dc) (hdl : off + dl = n) (hs : a.eval s = .slice so B.length sc) (row : RowB w (.slice so B.length sc) B) (hfit : B.length ≤ dl)
    (h : ∀ w', OwnB w' 0 (.slice (some ⟨g, 0, none⟩) n c) (layB A B (off : Int)) → Keep (fun k => k ≠ g) w w' → K (a.put o.dst (goInt B.length)) w') : o.wp Tryd.prog a w K Q := by
  obtain ⟨i, hi, hz0, hz1, hz2⟩ := info_parts infoB
  have hsz : (Tryd.prog.info? 5).map (·.size) = some 1 := by rw [hi]; simp [hz1]
  have hmin : Nat.min B.length dl = B.length := Nat.min_eq_left hfit
  by_cases h0 : B.length = 0
  · have hB : B = [] := List.eq_nil_of_length_eq_zero h0
    have hrun := run_copy_none (P := Tryd.prog) w 22 22 o.type 5 (some ⟨g, off, none⟩) so dl dc B.length sc Tryd.underlying22 hsz (by rw [hmin]; exact h0)
    unfold Oper.wp
    simp [execOp, ho, resolve, invoke, builtin, hd, hs, hrun, Result.andThen]
    have hk := h w (by rw [hB, layB_nil]; exact hown) (Keep.refl _ _)
    rw [h0] at hk
    exact hk
  · obtain ⟨sb, sof, rfl, hsb, hcell⟩ := row.addr (by omega)
    obtain ⟨cur, hg, hcur, hlaid⟩ := hown.laid (B := B) off (by omega)
    have hrun := run_copy_row (P := Tryd.prog) w 22 22 o.type 5 g off dl dc ⟨sb, sof, none⟩ B.length sc cur 5 (bytV B) Tryd.underlying22 hsz hg (by simp [bytV, hmin]) (fun j u hj => by
      unfold bytV at hj
      rw [List.getElem?_map] at hj
      cases hx : B[j]? with
      | none => rw [hx] at hj; cases hj
      | some x =>
        rw [hx] at hj
        obtain rfl := Option.some.inj hj
        rw [show (⟨sb, sof, none⟩ : Addr).add j = ⟨sb, sof + j, none⟩ from Addr.add_lit ..]
        exact hcell j x hx) (by simpa [bytV] using hcur) (fun u hu => by
      unfold bytV at hu
      obtain ⟨x, _, rfl⟩ := List.mem_map.1 hu; rfl)
    have hrun2 : (Builtin.copy_ #[22, 22] o.type #[.slice (some ⟨g, off, none⟩) dl dc, .slice (some ⟨sb, sof, none⟩) B.length sc]).run Tryd.prog w = .ok (goInt B.length) (w.setRow g (splice cur.toList off (bytV B)).toArray) := by
      simpa [splice, bytV] using hrun
    have hk := h _ hlaid ⟨rfl, rfl, rfl, by simp [World.setRow], fun k hk _ => setRow_other w g k _ hk⟩
    unfold Oper.wp
    simp [execOp, ho, resolve, invoke, builtin, hd, hs, hrun2, Result.andThen]
    exact hk
theorem OwnB.cut0 {w : World} {base b z bc : Nat} {B : List Int} (h : OwnB w base (.slice (some ⟨b, 0, none⟩) z bc) B) (m : Nat) (hm : m ≤ z) : (B.take m).length = m ∧ RowB w (.slice (some ⟨b, 0, none⟩) (B.take m).length bc) (B.take m) := by
  obtain ⟨a, c, e⟩ := h.shape
  have hz : B.length = z := by cases e; rfl
  have hr := h.row
  have hlen : (B.take m).length = m := by rw [List.length_take]; omega
  refine ⟨hlen, ?_⟩
  rcases hr with ⟨e, _⟩ | ⟨a, c, e, hB⟩ | ⟨b', o, c, e, hb, hc⟩
  · cases e
  · have : B.length = 0 := by rw [hB]; rfl
    have hm0 : m = 0 := by omega
    exact .inr (.inl ⟨_, _, by rw [hlen, hm0], by rw [hm0]; rfl⟩)
  · cases e
    exact .inr (.inr ⟨b, 0, bc, rfl, hb, fun i x hx => hc i x (by
      rw [List.getElem?_take] at hx
      split at hx
      · exact hx
      · cases hx)⟩)
end Go.Proofs.YteobffggfcmghaaDoor

