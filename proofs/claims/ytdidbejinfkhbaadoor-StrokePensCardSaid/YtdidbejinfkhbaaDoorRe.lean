/- Layer 7: the document's Stroke, of no point and of one. -/
import Derived.Test.YtdidbejinfkhbaaDoorRc
namespace Go.Proofs.YtdidbejinfkhbaaDoor
open Go.RowKit
set_option maxHeartbeats 4000000 in
set_option maxRecDepth 100000 in
theorem rnone_walk (ao : Option Addr) (n cc : Nat) (cl : Bool) (h : Int) (w : World) (cap : Int) (HPL : Hid (Calls Tryd.prog 42 #[.slice ao n cc, .bool cl] w fun e w' => ∃ v, e = .returned v ∧ Own w' w.heap.size 32 v [] ∧ Below w.heap.size w w')) :
    Calls Tryd.prog 18 #[.slice ao n cc, .bool cl, .int .i64 h, .int .i64 cap] w (RPost w true []) := by
  go_enter Tryd.func18, Tryd.ntmps18
  go_wp2_with fail
  refine HPL.out.mono ?_
  rintro e w1 ⟨v1, rfl, ho1, hb1⟩
  have B1 := Lib.hid hb1
  obtain ⟨ae, ce, rfl⟩ : ∃ a q, v1 = .slice a 0 q := by
    rcases own_some ho1 with ⟨e, _⟩ | ⟨g, cp, e⟩
    · exact ⟨_, _, e⟩
    · exact ⟨_, _, e⟩
  clear ho1 hb1
  go_wp2_with fail
  go_loopw [10, 13] (fun s10 s13 wr => s10 = .slice none 0 0 ∧ s13 = .int .i64 0 ∧ wr = w1) (fun _ _ _ => 0)
  case atStart => exact ⟨rfl, rfl, rfl⟩
  case round =>
    obtain ⟨rfl, rfl, rfl⟩ := hrel
    obtain ⟨wy, rfl⟩ : ∃ x, x = wr := ⟨_, rfl⟩
    go_wp2_with fail
    go_loopw [10, 15] (fun s10 s13 wr => s10 = .slice none 0 0 ∧ s13 = .int .i64 0 ∧ wr = wy) (fun _ _ _ => 0)
    case atStart => exact ⟨rfl, rfl, rfl⟩
    case round =>
      obtain ⟨rfl, rfl, rfl⟩ := hrel
      obtain ⟨wy, rfl⟩ : ∃ x, x = wr := ⟨_, rfl⟩
      go_wp2_with fail
      go_loopw [16] (fun s13 wr => s13 = .int .i64 0 ∧ wr = wy) (fun _ _ => 0)
      case atStart => exact ⟨rfl, rfl⟩
      case round =>
        obtain ⟨rfl, rfl⟩ := hrel
        obtain ⟨wy, rfl⟩ : ∃ x, x = wr := ⟨_, rfl⟩
        go_wp2_with fail
        go_ret2
        exact ⟨_, rfl, fun _ => ⟨[], Polys.nil _ _ _ _, rfl⟩, B1.out⟩
set_option maxHeartbeats 4000000 in
set_option maxRecDepth 100000 in
theorem rone_0 (ao : Option Addr) (n cc : Nat) (cl : Bool) (h : Int) (w : World) (p : Pt) (HPL : Hid (Calls Tryd.prog 42 #[.slice ao n cc, .bool cl] w fun e w' => ∃ v, e = .returned v ∧ Own w' w.heap.size 32 v [p] ∧ Below w.heap.size w w')) :
    Calls Tryd.prog 18 #[.slice ao n cc, .bool cl, .int .i64 h, .int .i64 0] w (RPost w true []) := by
  go_enter Tryd.func18, Tryd.ntmps18
  go_wp2_with fail
  refine HPL.out.mono ?_
  rintro e w1 ⟨v1, rfl, ho1, hb1⟩
  obtain ⟨b, cp, rfl⟩ : ∃ b cp, v1 = .slice (some ⟨b, 0, none⟩) 1 cp := by
    rcases own_some ho1 with ⟨_, e⟩ | ⟨g, cp, e⟩
    · cases e
    · exact ⟨g, cp, e⟩
  have HM : Hid ([p].length = 1) := rfl
  have M1 : Hid (RefM w w1 b 1 cp [p] (.slice none 0 0) []) := ⟨hb1, ho1, [], Polys.nil _ _ _ _, rfl⟩
  have B1 := Lib.hid hb1
  obtain ⟨c0, c1⟩ := ho1.pts HM.out (k := 0) rfl
  simp only [Nat.zero_mul, Nat.zero_add] at c0 c1
  clear ho1 hb1
  go_wp2_with fail
  go_loopw [10, 13] (fun s10 s13 wr => s10 = .slice none 0 0 ∧ s13 = .int .i64 0 ∧ wr = w1) (fun _ _ _ => 0)
  case atStart => exact ⟨rfl, rfl, rfl⟩
  case round =>
    obtain ⟨rfl, rfl, rfl⟩ := hrel
    obtain ⟨wy, rfl⟩ : ∃ x, x = wr := ⟨_, rfl⟩
    go_wp2_with fail
    go_loopw [10, 15] (fun s10 s13 wr => s10 = .slice none 0 0 ∧ s13 = .int .i64 0 ∧ wr = wy) (fun _ _ _ => 0)
    case atStart => exact ⟨rfl, rfl, rfl⟩
    case round =>
      obtain ⟨rfl, rfl, rfl⟩ := hrel
      obtain ⟨wy, rfl⟩ : ∃ x, x = wr := ⟨_, rfl⟩
      go_wp2_with fail
      go_loopw [16] (fun s13 wr => s13 = .int .i64 0 ∧ wr = wy) (fun _ _ => 0)
      case atStart => exact ⟨rfl, rfl⟩
      case round =>
        obtain ⟨rfl, rfl⟩ := hrel
        obtain ⟨wy, rfl⟩ : ∃ x, x = wr := ⟨_, rfl⟩
        go_wp2_with fail
        go_ret2
        exact ⟨_, rfl, fun _ => ⟨[], Polys.nil _ _ _ _, rfl⟩, B1.out⟩
set_option maxHeartbeats 4000000 in
set_option maxRecDepth 100000 in
theorem rone_1 (ao : Option Addr) (n cc : Nat) (cl : Bool) (h : Int) (w : World) (p : Pt) (HPL : Hid (Calls Tryd.prog 42 #[.slice ao n cc, .bool cl] w fun e w' => ∃ v, e = .returned v ∧ Own w' w.heap.size 32 v [p] ∧ Below w.heap.size w w')) (HD : Hid (∀ w, Calls Tryd.prog 11 #[.agg #[.int .i64 p.1, .int .i64 p.2], .int .i64 h] w fun e w' => ∃ v, e = .returned v ∧ Own w' w.heap.size 32 v (discI p h) ∧ Below w.heap.size w w'))
    (HSH : Hid (∀ L ∈ [discI p h], L.length ≤ 100000)) (HINN : Hid (∀ s L w', Row w' s L → L.length ≤ 100000 → Calls Tryd.prog 13 #[s] w' fun e w'' => e = .returned (.bool (L.all roomP)) ∧ Below w'.heap.size w' w'')) :
    Calls Tryd.prog 18 #[.slice ao n cc, .bool cl, .int .i64 h, .int .i64 1] w (RPost w (roomL [discI p h]) [discI p h]) := by
  go_enter Tryd.func18, Tryd.ntmps18
  go_wp2_with fail
  refine HPL.out.mono ?_
  rintro e w1 ⟨v1, rfl, ho1, hb1⟩
  obtain ⟨b, cp, rfl⟩ : ∃ b cp, v1 = .slice (some ⟨b, 0, none⟩) 1 cp := by
    rcases own_some ho1 with ⟨_, e⟩ | ⟨g, cp, e⟩
    · cases e
    · exact ⟨g, cp, e⟩
  have HM : Hid ([p].length = 1) := rfl
  have M1 : Hid (RefM w w1 b 1 cp [p] (.slice none 0 0) []) := ⟨hb1, ho1, [], Polys.nil _ _ _ _, rfl⟩
  have B1 := Lib.hid hb1
  obtain ⟨c0, c1⟩ := ho1.pts HM.out (k := 0) rfl
  simp only [Nat.zero_mul, Nat.zero_add] at c0 c1
  clear ho1 hb1
  go_wp2_with fail
  refine (HD.out _).mono ?_
  rintro e w4 ⟨v4, rfl, ho4, hb4⟩
  obtain ⟨sa, sn, sc, rfl⟩ := own_shape' ho4
  have AX : Hid (Below w4.heap.size w4 (w4.alloc (.cells #[.slice sa sn sc] 30))) := (Below.refl _ _).alloc (Nat.le_refl _) _
  have M5 := Lib.hid ((M1.out.grow hb4).grow AX.out)
  have HNW : Hid (∀ x ∈ [((.slice sa sn sc : Value), discI p h)], Own (w4.alloc (.cells #[.slice sa sn sc] 30)) w.heap.size 32 x.1 x.2) := fun x hx => by
    obtain rfl := List.mem_singleton.1 hx
    exact (ho4.base B1.out.size).grow AX.out
  have HBL : Hid (Blk (w4.alloc (.cells #[.slice sa sn sc] 30)) w4.heap.size 30 ([((.slice sa sn sc : Value), discI p h)].map Prod.fst).toArray) := Blk.new _ _ _
  clear ho4 hb4 c0 c1
  go_wp2_with (at_builtin; refine wpList_append_refs rfl _ _ rfl b 1 cp [p] _ _ rfl M5.out [(.slice sa sn sc, discI p h)] HNW.out w4.heap.size 1 rfl rfl HBL.out (by simp) ?_)
  intro v' w6 hm6
  have M6 : Hid (RefM w w6 b 1 cp [p] v' [discI p h]) := hm6
  obtain ⟨xa, xc, hxa⟩ : ∃ a c, v' = .slice a 1 c := M6.out.shape
  subst hxa
  clear hm6
  go_wp2_with fail
  go_loopw [10, 13] (fun s10 s13 wr => s10 = .slice xa 1 xc ∧ s13 = .int .i64 0 ∧ wr = w6) (fun _ _ _ => 0)
  case atStart => exact ⟨rfl, rfl, rfl⟩
  case round =>
    obtain ⟨rfl, rfl, rfl⟩ := hrel
    go_wp2_with fail
    obtain ⟨wy, rfl⟩ : ∃ x, x = wr := ⟨_, rfl⟩
    go_loopw [10, 15] (fun s10 s13 wr => s10 = .slice xa 1 xc ∧ s13 = .int .i64 0 ∧ wr = wy) (fun _ _ _ => 0)
    case atStart => exact ⟨rfl, rfl, rfl⟩
    case round =>
      obtain ⟨rfl, rfl, rfl⟩ := hrel
      go_wp2_with fail
      obtain ⟨wy, rfl⟩ : ∃ x, x = wr := ⟨_, rfl⟩
      have M7 : Hid (RefM w wy b 1 cp [p] (.slice xa 1 xc) [discI p h]) := M6
      obtain ⟨un, hun⟩ : ∃ un, [discI p h].length = un := ⟨_, rfl⟩
      obtain rfl : un = 1 := hun.symm
      have HUN := Lib.hid hun
      clear hun
      obtain ⟨S, hS, hSL⟩ := M7.out.polys
      have PS := Lib.hid hS
      have ES := Lib.hid hSL
      have HSN : Hid (S.length = 1) := by unfold Hid; rw [← HUN.out, ← hSL, List.length_map]
      clear hS hSL
      obtain ⟨wz, rfl⟩ : ∃ x, x = wy := ⟨_, rfl⟩
      go_loopw [16] (fun s16 wr => ∃ k : Nat, k ≤ 1 ∧ s16 = .int .i64 k ∧ Hid (Below wz.heap.size wz wr ∧ ∀ j L, j < k → ([discI p h])[j]? = some L → L.all roomP = true)) (fun s16 _ => 1 - (intOf s16).toNat)
      case atStart => exact ⟨0, by omega, rfl, Below.refl _ _, fun j L hj => by omega⟩
      case round =>
        obtain ⟨k, hk, rfl, hv⟩ := hrel
        by_cases hltk : k < 1
        · have hdk : decide ((k : Int) < (1 : Int)) = true := by simp; omega
          obtain ⟨⟨vk, Lk⟩, hx⟩ : ∃ x, S[k]? = some x := ⟨_, List.getElem?_eq_getElem (by rw [HSN.out]; exact hltk)⟩
          have PR := Lib.hid (PS.out.grow hv.out.1)
          have OK := Lib.hid (PR.out.own _ (List.mem_of_getElem? hx))
          have HXL : Hid (([discI p h])[k]? = some Lk) := by unfold Hid; rw [← ES.out, List.getElem?_map, hx]; rfl
          obtain ⟨g4, rfl, hg4, c0⟩ := polys_cell PR.out HSN.out hx
          simp only at OK c0
          obtain ⟨ak, nk, ck, rfl⟩ := own_shape' OK.out
          have hnk := own_lim OK.out
          have HIN := Lib.hid (HINN.out (.slice ak nk ck) Lk wr OK.out.row (HSH.out Lk (List.mem_of_getElem? HXL.out)))
          obtain ⟨rb, hrb⟩ : ∃ rb, Lk.all roomP = rb := ⟨_, rfl⟩
          rw [hrb] at HIN
          have HRB := Lib.hid hrb
          clear hx hrb hnk
          go_wp2_with fail
          refine HIN.out.mono ?_
          rintro e w8 ⟨rfl, hb8⟩
          have B8 : Hid (Below wz.heap.size wz w8) := below_next hv.out.1 hb8
          clear hb8 c0
          cases rb
          · have HNF : Hid (roomL ([discI p h]) = false) := by
              unfold Hid roomL
              rw [List.all_eq_false]
              exact ⟨Lk, List.mem_of_getElem? HXL.out, by rw [HRB.out]; decide⟩
            go_wp2_with fail
            go_ret2
            exact ⟨_, by rw [HNF.out]; rfl, fun h => (by rw [HNF.out] at h; cases h), below_next M7.out.below B8.out⟩
          · have HNX2 : Hid (∀ j L, j < k + 1 → ([discI p h])[j]? = some L → L.all roomP = true) := fun j L hj hL => by
              by_cases e : j = k
              · subst e; rw [HXL.out] at hL; obtain rfl := Option.some.inj hL; exact HRB.out
              · exact hv.out.2 j L (by omega) hL
            go_wp2_with fail
            exact ⟨⟨k + 1, by omega, by go_num, B8.out, HNX2.out⟩, by simp [intOf]; omega⟩
        · have hdk : decide ((k : Int) < (1 : Int)) = false := by simp; omega
          have HRT : Hid (roomL ([discI p h]) = true) := by
            unfold Hid roomL
            rw [List.all_eq_true]
            intro L hL
            obtain ⟨j, hj⟩ := List.getElem?_of_mem hL
            have hlt : j < ([discI p h]).length := (List.getElem?_eq_some_iff.1 hj).1
            exact hv.out.2 j L (by have := HUN.out; omega) hj
          have PR := Lib.hid (PS.out.grow hv.out.1)
          go_wp2_with fail
          go_ret2
          exact ⟨_, by rw [HRT.out]; rfl, fun _ => ⟨S, PR.out, ES.out⟩, below_next M7.out.below hv.out.1⟩
set_option maxHeartbeats 4000000 in
set_option maxRecDepth 100000 in
theorem rone_2 (ao : Option Addr) (n cc : Nat) (cl : Bool) (h : Int) (w : World) (p : Pt) (x1 y1 x2 y2 : Int) (e1 : wrap64 (p.1 - h) = x1) (e2 : wrap64 (p.2 - h) = y1) (e3 : wrap64 (p.1 + h) = x2) (e4 : wrap64 (p.2 + h) = y2) (HPL : Hid (Calls Tryd.prog 42 #[.slice ao n cc, .bool cl] w fun e w' => ∃ v, e = .returned v ∧ Own w' w.heap.size 32 v [p] ∧ Below w.heap.size w w'))
    (HSH : Hid (∀ L ∈ [[(x1, y1), (x2, y1), (x2, y2), (x1, y2)]], L.length ≤ 100000)) (HINN : Hid (∀ s L w', Row w' s L → L.length ≤ 100000 → Calls Tryd.prog 13 #[s] w' fun e w'' => e = .returned (.bool (L.all roomP)) ∧ Below w'.heap.size w' w'')) :
    Calls Tryd.prog 18 #[.slice ao n cc, .bool cl, .int .i64 h, .int .i64 2] w (RPost w (roomL [[(x1, y1), (x2, y1), (x2, y2), (x1, y2)]]) [[(x1, y1), (x2, y1), (x2, y2), (x1, y2)]]) := by
  go_enter Tryd.func18, Tryd.ntmps18
  go_wp2_with fail
  refine HPL.out.mono ?_
  rintro e w1 ⟨v1, rfl, ho1, hb1⟩
  obtain ⟨b, cp, rfl⟩ : ∃ b cp, v1 = .slice (some ⟨b, 0, none⟩) 1 cp := by
    rcases own_some ho1 with ⟨_, e⟩ | ⟨g, cp, e⟩
    · cases e
    · exact ⟨g, cp, e⟩
  have HM : Hid ([p].length = 1) := rfl
  have M1 : Hid (RefM w w1 b 1 cp [p] (.slice none 0 0) []) := ⟨hb1, ho1, [], Polys.nil _ _ _ _, rfl⟩
  have B1 := Lib.hid hb1
  obtain ⟨c0, c1⟩ := ho1.pts HM.out (k := 0) rfl
  simp only [Nat.zero_mul, Nat.zero_add] at c0 c1
  clear ho1 hb1
  have AX : Hid (Below w1.heap.size w1 ((w1.alloc (.cells #[.int .i64 p.1, .int .i64 p.2] 32)).alloc (.cells #[.int .i64 x1, .int .i64 y1, .int .i64 x2, .int .i64 y1, .int .i64 x2, .int .i64 y2, .int .i64 x1, .int .i64 y2] 32))) := ((Below.refl _ _).alloc (Nat.le_refl _) _).alloc (by simp) _
  have AY : Hid (Below w1.heap.size w1 (((w1.alloc (.cells #[.int .i64 p.1, .int .i64 p.2] 32)).alloc (.cells #[.int .i64 x1, .int .i64 y1, .int .i64 x2, .int .i64 y1, .int .i64 x2, .int .i64 y2, .int .i64 x1, .int .i64 y2] 32)).alloc (.cells #[.slice (some ⟨w1.heap.size + 1, 0, none⟩) 4 4] 30))) := AX.out.alloc AX.out.size _
  have M5 := Lib.hid (M1.out.grow AY.out)
  have HOW : Hid (Own (((w1.alloc (.cells #[.int .i64 p.1, .int .i64 p.2] 32)).alloc (.cells #[.int .i64 x1, .int .i64 y1, .int .i64 x2, .int .i64 y1, .int .i64 x2, .int .i64 y2, .int .i64 x1, .int .i64 y2] 32)).alloc (.cells #[.slice (some ⟨w1.heap.size + 1, 0, none⟩) 4 4] 30)) w.heap.size 32 (.slice (some ⟨w1.heap.size + 1, 0, none⟩) 4 4) [(x1, y1), (x2, y1), (x2, y2), (x1, y2)]) := by
    have := Own.made (w1.alloc (.cells #[.int .i64 p.1, .int .i64 p.2] 32)) (base := w.heap.size) (Nat.le_trans B1.out.size (by simp)) 32 [(x1, y1), (x2, y1), (x2, y2), (x1, y2)] #[.int .i64 x1, .int .i64 y1, .int .i64 x2, .int .i64 y1, .int .i64 x2, .int .i64 y2, .int .i64 x1, .int .i64 y2] 4 rfl rfl (by decide)
    rw [show (w1.alloc (.cells #[.int .i64 p.1, .int .i64 p.2] 32)).heap.size = w1.heap.size + 1 by simp] at this
    exact this.grow ((Below.refl _ _).alloc (Nat.le_refl _) _)
  have HNW : Hid (∀ x ∈ [((.slice (some ⟨w1.heap.size + 1, 0, none⟩) 4 4 : Value), [(x1, y1), (x2, y1), (x2, y2), (x1, y2)])], Own (((w1.alloc (.cells #[.int .i64 p.1, .int .i64 p.2] 32)).alloc (.cells #[.int .i64 x1, .int .i64 y1, .int .i64 x2, .int .i64 y1, .int .i64 x2, .int .i64 y2, .int .i64 x1, .int .i64 y2] 32)).alloc (.cells #[.slice (some ⟨w1.heap.size + 1, 0, none⟩) 4 4] 30)) w.heap.size 32 x.1 x.2) := fun x hx => by
    obtain rfl := List.mem_singleton.1 hx
    exact HOW.out
  have HBL : Hid (Blk (((w1.alloc (.cells #[.int .i64 p.1, .int .i64 p.2] 32)).alloc (.cells #[.int .i64 x1, .int .i64 y1, .int .i64 x2, .int .i64 y1, .int .i64 x2, .int .i64 y2, .int .i64 x1, .int .i64 y2] 32)).alloc (.cells #[.slice (some ⟨w1.heap.size + 1, 0, none⟩) 4 4] 30)) (w1.heap.size + 1 + 1) 30 ([((.slice (some ⟨w1.heap.size + 1, 0, none⟩) 4 4 : Value), [(x1, y1), (x2, y1), (x2, y2), (x1, y2)])].map Prod.fst).toArray) := Blk.newAt _ _ _ (by simp)
  go_wp2_with (at_builtin; refine wpList_append_refs rfl _ _ rfl b 1 cp [p] _ _ rfl M5.out [(.slice (some ⟨w1.heap.size + 1, 0, none⟩) 4 4, [(x1, y1), (x2, y1), (x2, y2), (x1, y2)])] HNW.out (w1.heap.size + 1 + 1) 1 rfl rfl HBL.out (by simp) ?_)
  intro v' w6 hm6
  have M6 : Hid (RefM w w6 b 1 cp [p] v' [[(x1, y1), (x2, y1), (x2, y2), (x1, y2)]]) := hm6
  obtain ⟨xa, xc, hxa⟩ : ∃ a c, v' = .slice a 1 c := M6.out.shape
  subst hxa
  clear hm6
  go_wp2_with fail
  go_loopw [10, 13] (fun s10 s13 wr => s10 = .slice xa 1 xc ∧ s13 = .int .i64 0 ∧ wr = w6) (fun _ _ _ => 0)
  case atStart => exact ⟨rfl, rfl, rfl⟩
  case round =>
    obtain ⟨rfl, rfl, rfl⟩ := hrel
    go_wp2_with fail
    obtain ⟨wy, rfl⟩ : ∃ x, x = wr := ⟨_, rfl⟩
    go_loopw [10, 15] (fun s10 s13 wr => s10 = .slice xa 1 xc ∧ s13 = .int .i64 0 ∧ wr = wy) (fun _ _ _ => 0)
    case atStart => exact ⟨rfl, rfl, rfl⟩
    case round =>
      obtain ⟨rfl, rfl, rfl⟩ := hrel
      go_wp2_with fail
      obtain ⟨wy, rfl⟩ : ∃ x, x = wr := ⟨_, rfl⟩
      have M7 : Hid (RefM w wy b 1 cp [p] (.slice xa 1 xc) [[(x1, y1), (x2, y1), (x2, y2), (x1, y2)]]) := M6
      obtain ⟨un, hun⟩ : ∃ un, [[(x1, y1), (x2, y1), (x2, y2), (x1, y2)]].length = un := ⟨_, rfl⟩
      obtain rfl : un = 1 := hun.symm
      have HUN := Lib.hid hun
      clear hun
      obtain ⟨S, hS, hSL⟩ := M7.out.polys
      have PS := Lib.hid hS
      have ES := Lib.hid hSL
      have HSN : Hid (S.length = 1) := by unfold Hid; rw [← HUN.out, ← hSL, List.length_map]
      clear hS hSL
      obtain ⟨wz, rfl⟩ : ∃ x, x = wy := ⟨_, rfl⟩
      go_loopw [16] (fun s16 wr => ∃ k : Nat, k ≤ 1 ∧ s16 = .int .i64 k ∧ Hid (Below wz.heap.size wz wr ∧ ∀ j L, j < k → ([[(x1, y1), (x2, y1), (x2, y2), (x1, y2)]])[j]? = some L → L.all roomP = true)) (fun s16 _ => 1 - (intOf s16).toNat)
      case atStart => exact ⟨0, by omega, rfl, Below.refl _ _, fun j L hj => by omega⟩
      case round =>
        obtain ⟨k, hk, rfl, hv⟩ := hrel
        by_cases hltk : k < 1
        · have hdk : decide ((k : Int) < (1 : Int)) = true := by simp; omega
          obtain ⟨⟨vk, Lk⟩, hx⟩ : ∃ x, S[k]? = some x := ⟨_, List.getElem?_eq_getElem (by rw [HSN.out]; exact hltk)⟩
          have PR := Lib.hid (PS.out.grow hv.out.1)
          have OK := Lib.hid (PR.out.own _ (List.mem_of_getElem? hx))
          have HXL : Hid (([[(x1, y1), (x2, y1), (x2, y2), (x1, y2)]])[k]? = some Lk) := by unfold Hid; rw [← ES.out, List.getElem?_map, hx]; rfl
          obtain ⟨g4, rfl, hg4, c0⟩ := polys_cell PR.out HSN.out hx
          simp only at OK c0
          obtain ⟨ak, nk, ck, rfl⟩ := own_shape' OK.out
          have hnk := own_lim OK.out
          have HIN := Lib.hid (HINN.out (.slice ak nk ck) Lk wr OK.out.row (HSH.out Lk (List.mem_of_getElem? HXL.out)))
          obtain ⟨rb, hrb⟩ : ∃ rb, Lk.all roomP = rb := ⟨_, rfl⟩
          rw [hrb] at HIN
          have HRB := Lib.hid hrb
          clear hx hrb hnk
          go_wp2_with fail
          refine HIN.out.mono ?_
          rintro e w8 ⟨rfl, hb8⟩
          have B8 : Hid (Below wz.heap.size wz w8) := below_next hv.out.1 hb8
          clear hb8 c0
          cases rb
          · have HNF : Hid (roomL ([[(x1, y1), (x2, y1), (x2, y2), (x1, y2)]]) = false) := by
              unfold Hid roomL
              rw [List.all_eq_false]
              exact ⟨Lk, List.mem_of_getElem? HXL.out, by rw [HRB.out]; decide⟩
            go_wp2_with fail
            go_ret2
            exact ⟨_, by rw [HNF.out]; rfl, fun h => (by rw [HNF.out] at h; cases h), below_next M7.out.below B8.out⟩
          · have HNX2 : Hid (∀ j L, j < k + 1 → ([[(x1, y1), (x2, y1), (x2, y2), (x1, y2)]])[j]? = some L → L.all roomP = true) := fun j L hj hL => by
              by_cases e : j = k
              · subst e; rw [HXL.out] at hL; obtain rfl := Option.some.inj hL; exact HRB.out
              · exact hv.out.2 j L (by omega) hL
            go_wp2_with fail
            exact ⟨⟨k + 1, by omega, by go_num, B8.out, HNX2.out⟩, by simp [intOf]; omega⟩
        · have hdk : decide ((k : Int) < (1 : Int)) = false := by simp; omega
          have HRT : Hid (roomL ([[(x1, y1), (x2, y1), (x2, y2), (x1, y2)]]) = true) := by
            unfold Hid roomL
            rw [List.all_eq_true]
            intro L hL
            obtain ⟨j, hj⟩ := List.getElem?_of_mem hL
            have hlt : j < ([[(x1, y1), (x2, y1), (x2, y2), (x1, y2)]]).length := (List.getElem?_eq_some_iff.1 hj).1
            exact hv.out.2 j L (by have := HUN.out; omega) hj
          have PR := Lib.hid (PS.out.grow hv.out.1)
          go_wp2_with fail
          go_ret2
          exact ⟨_, by rw [HRT.out]; rfl, fun _ => ⟨S, PR.out, ES.out⟩, below_next M7.out.below hv.out.1⟩
end Go.Proofs.YtdidbejinfkhbaaDoor
