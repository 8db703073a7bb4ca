/- Layer 6: Apply of a path, the walk. -/
import Derived.Test.YtffgpikhahpomaaDoorMc
namespace Go.Proofs.YtffgpikhahpomaaDoor
open Go.RowKit Go.Shelf
attribute [local go_sem] Oper.semAt_some
def appOut (m : Mx) (l : List Sg) : Int × List Sg := if l.all (madeOk m) = true then (0, l.map (madeS m)) else (10, [])
set_option maxHeartbeats 8000000 in
set_option maxRecDepth 100000 in
theorem papply_walk (ao : Option Addr) (n c : Nat) (m : Mx) (l : List Sg) (w : World) (hn : n ≤ 4096) (hr : Rd w) (row : RowS w (.slice ao n c) l)
    (HC : Hid (∀ W, Below w.heap.size w W → Calls Tryd.prog 10 #[.slice ao n c] W fun e w' => e = .returned (.int .i64 0) ∧ Below W.heap.size W w'))
    (HRT : Hid (∀ W, Calls Tryd.prog 28 #[.agg #[.int .i64 m.a, .int .i64 m.b, .int .i64 m.c, .int .i64 m.d, .int .i64 m.e, .int .i64 m.f]] W fun e w' => e = .returned (.bool true) ∧ Below W.heap.size W w')) :
    Calls Tryd.prog 27 #[.slice ao n c, .agg (six m)] w (ToldS w (appOut m l)) := by
  have HN := Lib.hid hn
  have HR := Lib.hid hr
  have HROW := Lib.hid row
  have HLEN := Lib.hid row.len
  obtain ⟨i0, hi, hz0, hz1, hz2⟩ := info_parts infoS
  have Hi := Lib.hid hi; have Hz0 := Lib.hid hz0; have Hz1 := Lib.hid hz1; have Hz2 := Lib.hid hz2
  clear hi hz0 hz1 hz2 hn hr row
  obtain ⟨w0, hw0⟩ : ∃ w0, ((w.alloc (.cells (six m) 67)).alloc (.cells #[.slice none 0 0] 22)).alloc (.cells #[.int .i64 0] 24) = w0 := ⟨_, rfl⟩
  have W0 : Hid (ApM w m w0 ∧ w0.heap.size = w.heap.size + 3) := by
    rw [← hw0]
    exact ⟨⟨(((Below.refl _ _).alloc (Nat.le_refl _) _).alloc (by simp) _).alloc (by simp; omega) _, ((Blk.new _ _ _).alloc _).alloc _, (Blk.newAt _ _ _ (by simp)).alloc _, Blk.newAt _ _ _ (by simp)⟩, by simp⟩
  have HW0 := Lib.hid hw0
  clear hw0
  refine callsIn_wide.1 (callsIn_of_wp_marks (n := 9) Tryd.func27 rfl trivial (wpIn_wide.2 ?_))
  simp only [Tryd.ntmps27, List.size_toArray, List.length_cons, List.length_nil, Nat.reduceAdd, Nat.reduceSub, Array.replicate_succ, Array.replicate_zero, List.push_toArray, List.append_toArray, List.nil_append, List.cons_append]
  go_wp2_with fail
  rw [show ((w.alloc (.cells (six m) 67)).alloc (.cells #[.slice none 0 0] 22)).alloc (.cells #[.int .i64 0] 24) = w0 from HW0.out]
  refine (HC.out _ W0.out.1.below).mono ?_
  rintro e w1 ⟨rfl, hb⟩
  have W1 : Hid (ApM w m w1 ∧ w.heap.size + 3 ≤ w1.heap.size) := ⟨W0.out.1.next hb, by have := hb.size; have := W0.out.2; omega⟩
  clear hb W0
  have km := W1.out.1.km
  have m0 := km.m0
  have m1 := km.m1
  have m2 := km.m2
  have m3 := km.m3
  have m4 := km.m4
  have m5 := km.m5
  clear km
  go_wp2_with fail
  refine (HRT.out _).mono ?_
  rintro e w2 ⟨rfl, hb⟩
  have W2 : Hid (ApM w m w2 ∧ w.heap.size + 3 ≤ w2.heap.size) := ⟨W1.out.1.next hb, Nat.le_trans W1.out.2 hb.size⟩
  clear hb m0 m1 m2 m3 m4 m5 W1
  go_wp2_with (at_make; refine wpList_make_own _ rfl _ _ 22 rfl (w.heap.size + 3) 48 i0 (.agg zSeven) 7 Tryd.underlying22 Hi.out Hz0.out Hz1.out .i64 .i64 (n : Int) n rfl rfl rfl ?b2 ?b3 ?b4 ?_)
  case b2 => rw [Hz2.out]; have := HN.out; omega
  case b3 => have := HN.out; unfold maxLen; omega
  case b4 => exact W2.out.2
  intro w3 hown hgr
  have hsz := hgr.size
  obtain ⟨g0, hg0⟩ : ∃ g, w2.heap.size = g := ⟨_, rfl⟩
  rw [hg0] at hown ⊢
  have W3 : Hid (ApM w m w3 ∧ w.heap.size + 3 ≤ w3.heap.size ∧ w3.ownsRow (w.heap.size + 3) 48 7 (.slice (some ⟨g0, 0, none⟩) 0 n) 0 []) := ⟨W2.out.1.next ⟨hgr.os, hgr.tape, hgr.output, hgr.size, fun k hk => hgr.block k hk (by simp)⟩, Nat.le_trans W2.out.2 hgr.size, hown⟩
  have HG0 : Hid (w.heap.size + 3 ≤ g0 ∧ g0 < w3.heap.size) := hown.lt g0 rfl
  clear hgr hown hsz hg0 W2
  go_wp2_with fail
  refine (segments_c ao n c _).mono ?_
  rintro e w4 ⟨rfl, rfl⟩
  go_wp2_with fail
  obtain ⟨r7, hr7⟩ : ∃ r, w3.heap.size = r := ⟨_, rfl⟩
  obtain ⟨W, hW⟩ : ∃ W, (w3.alloc (.cells #[.slice (some ⟨g0, 0, none⟩) 0 n] 22)).alloc (.cells #[.slice ao n c] 22) = W := ⟨_, rfl⟩
  have hz : W.heap.size = r7 + 2 := by rw [← hW, ← hr7]; simp
  have hb0 : Below w.heap.size w W := by rw [← hW]; exact (W3.out.1.below.alloc W3.out.1.below.size _).alloc (by have := W3.out.1.below.size; simp; omega) _
  have hx0 : Blk W (r7 + 1) 22 #[.slice ao n c] := by rw [← hW]; exact Blk.newAt _ _ _ (by simp [hr7])
  have h7 : w.heap.size + 3 ≤ r7 := hr7 ▸ W3.out.2.1
  have hg7 : g0 < r7 := hr7 ▸ HG0.out.2
  have hF : ApI w m r7 g0 n l 0 W := by
    rw [← hW]
    have k1 : Keep (fun _ => True) w3 ((w3.alloc (.cells #[.slice (some ⟨g0, 0, none⟩) 0 n] 22)).alloc (.cells #[.slice ao n c] 22)) := (Keep.alloc _ _ _).trans (Keep.alloc _ _ _)
    exact ⟨W3.out.1.keep k1 (fun _ _ => trivial), (Blk.newAt _ _ _ hr7).alloc _, owns_block W3.out.2.2 (k1.block _ trivial HG0.out.2), rfl⟩
  simp only [hr7]
  rw [hW]
  have H7 := Lib.hid (And.intro h7 (And.intro hg7 HG0.out.1))
  clear hW W3
  refine wp_segs (w0 := w) (bx := r7 + 1) (l := l) (n := n) rfl rfl hb0 (by omega) (hx0.cell 0) HROW.out (by have := HN.out; omega)
    (fun k A => k ≤ n ∧ ApI w m r7 g0 n l k A)
    (fun k A B h hk => ⟨h.1, h.2.keep hk (fun j hj => by omega) h7 hg7⟩)
    (fun A => Below w.heap.size w A ∧ Blk A (w.heap.size + 1) 22 #[.slice none 0 0] ∧ Blk A (w.heap.size + 1 + 1) 24 #[.int .i64 10] ∧ l.all (madeOk m) = false)
    (fun A B h hk => ⟨h.1.trans (hk.below (fun j hj => by omega) h.1.size), hk.blk h.2.1 (by omega), hk.blk h.2.2.1 (by omega), h.2.2.2⟩)
    ⟨Nat.zero_le _, hF⟩
    (fun x s g => #[.slice ao n c, .agg (six m), undef, .pointer (some ⟨w.heap.size, 0, none⟩), .pointer (some ⟨w.heap.size + 1, 0, none⟩), .pointer (some ⟨w.heap.size + 1 + 1, 0, none⟩), .int .i64 0, .pointer (some ⟨r7, 0, none⟩), undef, .pointer (some ⟨g, 0, none⟩), undef, undef, .slice ao n c, .int .i64 0, .int .i64 0, .bool false, undef, .agg #[.int .i64 m.a, .int .i64 m.b, .int .i64 m.c, .int .i64 m.d, .int .i64 m.e, .int .i64 m.f], .bool true, .bool false, .slice ao n c, .int .i64 (n : Int), .slice (some ⟨g0, 0, none⟩) 0 n, .slice ao n c, .func (.func 54) #[] #[.pointer (some ⟨r7 + 1, 0, none⟩)], .agg x.cells, .agg s.cells, undef, undef, undef, undef, undef, undef, undef, undef, undef, undef, undef, undef, undef, undef])
    (fun x s A => A.alloc (.cells s.cells 48))
    (fun x s A => Keep.alloc _ _ _)
    ?assign ?body ?done ?stop
  case assign =>
    intro L x s A K hK
    simp only [Sg.cells] at hK ⊢
    gi_wp2
    exact hK
  case body =>
    rintro L k s A o B hk ⟨hkn, hFA⟩ hN hB
    obtain ⟨kAB, bs, zB⟩ := round_one hN hB
    clear hB
    have FB := Lib.hid (hFA.keep kAB (fun j hj => by omega) h7 hg7)
    have HK := Lib.hid hk
    have HZ := Lib.hid (show r7 + 2 = W.heap.size ∧ W.heap.size + 3 ≤ A.heap.size ∧ B.heap.size = A.heap.size + 2 from ⟨hz.symm, hN, zB⟩)
    have hkn2 : k < n := by have := (List.getElem?_eq_some_iff.1 hk).1; have := HLEN.out; omega
    have HM := Lib.hid (made_c s m B (HR.out.on FB.out.mem.below))
    have km := FB.out.mem.km
    have m0 := km.m0
    have m1 := km.m1
    have m2 := km.m2
    have m3 := km.m3
    have m4 := km.m4
    have m5 := km.m5
    have lm := km.lt
    have c0 := bs.s0
    have c1 := bs.s1
    have c2 := bs.s2
    have c3 := bs.s3
    have c4 := bs.s4
    have c5 := bs.s5
    have c6 := bs.s6
    clear hFA hk hkn hN kAB zB bs km hz hb0 hx0 hF h7 hg7
    gi_wp2_with fail
    refine ⟨trivial, (CallsIn.inRound L (callsIn_wide.2 HM.out)).mono ?_⟩
    rintro e w2 ⟨rfl, hb⟩
    have KW : Hid (Keep (fun _ => True) B w2) := Keep.of_below hb
    have F2 := Lib.hid (FB.out.keep (S := fun _ => True) KW.out (fun _ _ => trivial) H7.out.1 H7.out.2.1)
    clear hb m0 m1 m2 m3 m4 m5 lm c0 c1 c2 c3 c4 c5 c6
    cases hok : madeOk m s
    · have hA : madeA m s = zSg := by unfold madeA; simp [hok]
      have hE : madeE m s = 10 := by unfold madeE; simp [hok]
      have HALL : Hid (l.all (madeOk m) = false) := by
        unfold Hid
        rw [List.all_eq_false]
        exact ⟨s, List.mem_of_getElem? HK.out, by simp [hok]⟩
      rw [hA, hE]
      clear hA hE hok
      simp only [Sg.cells]
      gi_upto_if 34 with fail
      obtain ⟨w5, hw5⟩ : ∃ W, w2.alloc (.cells (seven 0 (0, 0) (0, 0) (0, 0)) 48) = W := ⟨_, rfl⟩
      have K5 : Hid (Keep (fun _ => True) B w5) := by rw [← hw5]; exact KW.out.trans (Keep.alloc _ _ _)
      have F5 := Lib.hid (FB.out.keep (S := fun _ => True) K5.out (fun _ _ => trivial) H7.out.1 H7.out.2.1)
      rw [show w2.alloc (.cells #[.int .i64 0, .int .i64 0, .int .i64 0, .int .i64 0, .int .i64 0, .int .i64 0, .int .i64 0] 48) = w5 from hw5]
      clear hw5
      have k1 := F5.out.mem.r1
      have k2 := F5.out.mem.r2
      have c1 : w5.cell? ⟨w.heap.size + 1, 0, none⟩ = some (.slice none 0 0) := k1.cell 0
      have c2 : w5.cell? ⟨w.heap.size + 1 + 1, 0, none⟩ = some (.int .i64 0) := k2.cell 0
      have f1 := k1.free 0
      have f2 := k2.free 0
      have l1 := k1.lt
      have l2 := k2.lt
      gi_wp2_with fail
      clear c1 c2 f1 f2 l1 l2
      have h7 := H7.out
      have hz := HZ.out
      refine ⟨((K5.out.mono fun _ _ => trivial).trans (Keep.setCell _ _ _ ?_)).trans (Keep.setCell _ _ _ ?_), (F5.out.mem.below.setCell (by dsimp only; omega) _).setCell (by dsimp only; omega) _, (k1.put 0 _ #[.slice none 0 0] rfl).other _ _ (by dsimp only; omega), (k2.other _ _ (by dsimp only; omega)).put 0 _ #[.int .i64 10] rfl, HALL.out⟩
      · unfold RoundS; simp; omega
      · unfold RoundS; simp; omega
    · have hA : madeA m s = madeS m s := by unfold madeA; simp [hok]
      have hE : madeE m s = 0 := by unfold madeE; simp [hok]
      have HALL : Hid ((l.take (k + 1)).all (madeOk m) = true) := all_take FB.out.ok HK.out hok
      have HROW2 : Hid ((l.take (k + 1)).map (madeS m) = (l.take k).map (madeS m) ++ [madeS m s]) := by
        unfold Hid
        rw [List.take_add_one, HK.out]
        simp
      rw [hA, hE]
      clear hA hE hok
      obtain ⟨T, hT⟩ : ∃ T, madeS m s = T := ⟨_, rfl⟩
      rw [hT] at HROW2 ⊢
      clear hT
      simp only [Sg.cells]
      gi_upto_if 34 with fail
      obtain ⟨w5, hw5⟩ : ∃ W, w2.alloc (.cells (seven T.k T.p T.q T.r) 48) = W := ⟨_, rfl⟩
      have K5 : Hid (Keep (fun _ => True) B w5) := by rw [← hw5]; exact KW.out.trans (Keep.alloc _ _ _)
      have F5 := Lib.hid (FB.out.keep (S := fun _ => True) K5.out (fun _ _ => trivial) H7.out.1 H7.out.2.1)
      have T5 : Hid (Blk w5 w2.heap.size 48 T.cells) := by rw [← hw5]; exact Blk.new _ _ _
      rw [show w2.alloc (.cells #[.int .i64 T.k, .int .i64 T.p.1, .int .i64 T.p.2, .int .i64 T.q.1, .int .i64 T.q.2, .int .i64 T.r.1, .int .i64 T.r.2] 48) = w5 from hw5]
      clear hw5
      have kt := T5.out
      have d0 := kt.s0
      have d1 := kt.s1
      have d2 := kt.s2
      have d3 := kt.s3
      have d4 := kt.s4
      have d5 := kt.s5
      have d6 := kt.s6
      have c7 : w5.cell? ⟨r7, 0, none⟩ = some (.slice (some ⟨g0, 0, none⟩) k n) := F5.out.var.cell 0
      have OT : Hid ((w5.alloc (.cells (seven T.k T.p T.q T.r) 48)).ownsRow (w.heap.size + 3) 48 7 (.slice (some ⟨g0, 0, none⟩) k n) k (flatS ((l.take k).map (madeS m)))) := owns_block F5.out.row (Below.heap_alloc _ _ _ (F5.out.row.lt g0 rfl).2)
      have NT : Hid (Blk (w5.alloc (.cells (seven T.k T.p T.q T.r) 48)) w5.heap.size 48 (seven T.k T.p T.q T.r)) := Blk.new _ _ _
      clear kt
      gi_wp2_with (gi_at_builtin; refine wpListIn_append_fits _ rfl _ _ 22 rfl (w.heap.size + 3) 48 i0 7 Tryd.underlying22 Hi.out Hz1.out g0 k n (flatS ((l.take k).map (madeS m))) rfl OT.out ⟨w5.heap.size, 0, none⟩ 1 1 [.int .i64 T.k, .int .i64 T.p.1, .int .i64 T.p.2, .int .i64 T.q.1, .int .i64 T.q.2, .int .i64 T.r.1, .int .i64 T.r.2] rfl rfl ?c1 ?c2 ?c3 ?_)
      case c1 =>
        intro j v hj
        simp only [Addr.add_lit, Nat.zero_add]
        exact (NT.out.cell j).trans (by simpa using hj)
      case c2 => intro v hv; simp at hv; rcases hv with rfl | rfl | rfl | rfl | rfl | rfl | rfl <;> rfl
      case c3 => omega
      intro w6 hown hgrow
      have hg67 := H7.out
      have K6 : Hid (Keep (fun j => j ≠ g0) B w6) := ((K5.out.mono fun _ _ => trivial).trans (Keep.alloc _ _ _)).trans ⟨hgrow.os, hgrow.tape, hgrow.output, hgrow.size, fun j hj hl => hgrow.block j hl (fun e => hj (by cases e; rfl))⟩
      have V6 := Lib.hid (K6.out.blk FB.out.var (by omega))
      have M6 := Lib.hid (FB.out.mem.keep K6.out (fun j hj => by omega))
      have R6 := Lib.hid hown
      clear hown hgrow d0 d1 d2 d3 d4 d5 d6 c7
      have kv := V6.out
      have c7 : w6.cell? ⟨r7, 0, none⟩ = some (.slice (some ⟨g0, 0, none⟩) k n) := kv.cell 0
      have f7 := kv.free 0
      have l7 := kv.lt
      clear hg67
      gi_wp2_with fail
      have h7 := H7.out
      have hz := HZ.out
      refine ⟨(K6.out.mono fun j hj => ?_).trans (Keep.setCell _ _ _ ?_), by omega, M6.out.keep (S := fun j => j ≠ r7) (Keep.setCell _ _ _ (by simp)) (fun j hj => by omega), kv.put 0 _ #[.slice (some ⟨g0, 0, none⟩) (k + 1) n] rfl, ?_, HALL.out⟩
      · unfold RoundS at hj; omega
      · unfold RoundS; simp; omega
      · have h := owns_block (w' := w6.setCell ⟨r7, 0, none⟩ (.slice (some ⟨g0, 0, none⟩) (k + 1) n)) R6.out (Below.heap_setCell _ _ _ _ (by dsimp only; omega))
        rw [HROW2.out, flatS_append, List.map_take]
        simp only [flatS]
        exact h
  case done =>
    rintro D ⟨_, hF2⟩ hD
    have HF2 := Lib.hid hF2
    have HD := Lib.hid hD
    have HZ := Lib.hid hz
    have kv := hF2.var
    have k1 := hF2.mem.r1
    have k2 := hF2.mem.r2
    have c7 : D.cell? ⟨r7, 0, none⟩ = some (.slice (some ⟨g0, 0, none⟩) n n) := kv.cell 0
    have c1 : D.cell? ⟨w.heap.size + 1, 0, none⟩ = some (.slice none 0 0) := k1.cell 0
    have c2 : D.cell? ⟨w.heap.size + 1 + 1, 0, none⟩ = some (.int .i64 0) := k2.cell 0
    have f1 := k1.free 0
    have f2 := k2.free 0
    have l1 := k1.lt
    have l2 := k2.lt
    have l7 := kv.lt
    clear hF2 hD hz hb0 hx0 hF h7 hg7
    dsimp only
    go_wp2_with fail
    clear c7 c1 c2 f1 f2 l1 l2 l7
    have h7 := H7.out
    have hz2 := HZ.out
    obtain ⟨E, hE⟩ : ∃ E, (D.setCell ⟨w.heap.size + 1, 0, none⟩ (.slice (some ⟨g0, 0, none⟩) n n)).setCell ⟨w.heap.size + 1 + 1, 0, none⟩ (.int .i64 0) = E := ⟨_, rfl⟩
    have kS : Keep (fun j => j ≠ w.heap.size + 1 ∧ j ≠ w.heap.size + 1 + 1) D E := by rw [← hE]; exact (Keep.setCell _ _ _ (by simp)).trans (Keep.setCell _ _ _ (by simp))
    have e1 : Blk E (w.heap.size + 1) 22 #[.slice (some ⟨g0, 0, none⟩) n n] := by rw [← hE]; exact (k1.put 0 _ _ rfl).other _ _ (by dsimp only; omega)
    have e2 : Blk E (w.heap.size + 1 + 1) 24 #[.int .i64 0] := by rw [← hE]; exact (k2.other _ _ (by dsimp only; omega)).put 0 _ _ rfl
    have eb : Below w.heap.size w E := by rw [← hE]; exact (HF2.out.mem.below.setCell (by dsimp only; omega) _).setCell (by dsimp only; omega) _
    rw [hE]
    refine postM_ret (.tuple #[.slice (some ⟨g0, 0, none⟩) n n, .int .i64 0]) ((kS.block _ (by omega) (Array.getElem?_eq_some_iff.1 HD.out).1).trans HD.out) ?_ ?_
    · exact results_apply 4 5 rfl rfl rfl (e1.putOther _ (by omega)) (e2.putOther _ (by omega))
    · have hall : l.all (madeOk m) = true := by have h := HF2.out.ok; rwa [List.take_of_length_le (by rw [HLEN.out]; exact Nat.le_refl _)] at h
      unfold appOut
      rw [if_pos hall]
      refine ⟨_, rfl, ?_, below_put eb _ (by omega) eb.size⟩
      have h := HF2.out.row
      rw [List.take_of_length_le (by rw [HLEN.out]; exact Nat.le_refl _)] at h
      have h3 := owns_block (w' := E.putObj W.heap.size (.deferred none)) h (((Keep.putObj (S := fun j => j ≠ W.heap.size) E W.heap.size (.deferred none) (by simp)).block _ (by omega) (by have := kS.size; have := (h.lt g0 rfl).2; omega)).trans (kS.block _ (by omega) (h.lt g0 rfl).2))
      unfold OwnS
      rw [List.length_map, HLEN.out]
      exact owns_base h3 (by omega)
  case stop =>
    rintro D ⟨hb, k1, k2, hall⟩ hD
    have h7 := H7.out
    refine postM_ret (.tuple #[.slice none 0 0, .int .i64 10]) hD ?_ ?_
    · exact results_apply 4 5 rfl rfl rfl (k1.putOther _ (by omega)) (k2.putOther _ (by omega))
    · unfold appOut
      rw [if_neg (by rw [hall]; simp)]
      exact ⟨_, rfl, OwnS.nil _ _ _, below_put hb _ (by omega) hb.size⟩
theorem papply_c (ao : Option Addr) (n c : Nat) (m : Mx) (l : List Sg) (w : World) (hr : Rd w) (row : RowS w (.slice ao n c) l) :
    Calls Tryd.prog 27 #[.slice ao n c, .agg (six m)] w (ToldS w (applyI m l)) := by
  have HC : ∀ W, Below w.heap.size w W → Calls Tryd.prog 10 #[.slice ao n c] W fun e w' => e = .returned (.int .i64 (checkI l)) ∧ Below W.heap.size W w' := fun W h => check_c _ l W (hr.on h) (row.on h)
  have HRT := right_c m
  unfold applyI
  by_cases h0 : checkI l = 0
  · rw [if_neg (by simp [h0])]
    rw [h0] at HC
    have hn : n ≤ 4096 := by rw [← row.len]; exact (check_good h0).2
    cases hk : rightI m
    · rw [hk] at HRT
      exact papply_wrong ao n c m w HC HRT
    · rw [hk] at HRT
      have h := papply_walk ao n c m l w hn hr row HC HRT
      unfold appOut at h
      simpa using h
  · rw [if_pos h0]
    exact papply_bad ao n c m (checkI l) w (by simpa using h0) HC
end Go.Proofs.YtffgpikhahpomaaDoor
