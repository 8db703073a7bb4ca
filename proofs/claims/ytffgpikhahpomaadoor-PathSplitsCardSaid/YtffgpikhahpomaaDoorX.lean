/- Layer 5: the document's Halves. -/
import Derived.Test.YtffgpikhahpomaaDoorW
import Derived.Deep.LoopGhost
namespace Go.Proofs.YtffgpikhahpomaaDoor
open Go.RowKit
/-- The first points of all rows of middles; the last ones, the last row's first. -/
def firstG : Nat → List Pt → List Pt
  | 0, _ => []
  | k + 1, l => l.headD (0, 0) :: firstG k (midsI l)
def secondG : Nat → List Pt → List Pt
  | 0, _ => []
  | k + 1, l => secondG k (midsI l) ++ [l.getLastD (0, 0)]
theorem firstG_eq {l : List Pt} (h : curveB l = true) : firstG l.length l = firstI l := by
  rcases curve_cases h with ⟨p, q, r, rfl, _⟩ | ⟨p, q, r, s, rfl, _⟩ <;> rfl
theorem secondG_eq {l : List Pt} (h : curveB l = true) : secondG l.length l = secondI l := by
  rcases curve_cases h with ⟨p, q, r, rfl, _⟩ | ⟨p, q, r, s, rfl, _⟩ <;> rfl
theorem midsI_room : ∀ l : List Pt, l.all roomP = true → (midsI l).all roomP = true
  | [], _ => rfl
  | [_], _ => rfl
  | p :: q :: l, h => by
    simp only [List.all_cons, Bool.and_eq_true] at h
    have ih := midsI_room (q :: l) (by simp [h.2.1, h.2.2])
    simp only [midsI, List.all_cons, Bool.and_eq_true]
    exact ⟨midI_room h.1 h.2.1, ih⟩
theorem midsI_at : ∀ (l : List Pt) (k : Nat) (p q : Pt), l[k]? = some p → l[k + 1]? = some q → (midsI l)[k]? = some (midI p q)
  | [], _, _, _, h, _ => by cases h
  | [_], 0, _, _, _, h => by cases h
  | [_], _ + 1, _, _, h, _ => by cases h
  | a :: b :: l, 0, p, q, h1, h2 => by
    simp at h1 h2; subst h1 h2; rfl
  | a :: b :: l, k + 1, p, q, h1, h2 => by
    have := midsI_at (b :: l) k p q (by simpa using h1) (by simpa using h2)
    simpa [midsI] using this
/-- What the outer loop keeps. -/
structure HvR (n : Nat) (w : World) (FI SE : List Pt) (k : Nat) (s a b : Value) (W : World) (L A B : List Pt) : Prop where
  row : Row W s L
  oa : Own W n 45 a A
  ob : Own W n 45 b B
  sa : Apart s a
  sb : Apart s b
  ab : Apart a b
  room : L.all roomP = true
  fst : A ++ firstG L.length L = FI
  snd : secondG L.length L ++ B = SE
  la : A.length + L.length ≤ 4
  lb : B.length + L.length ≤ 4
  lk : L.length ≤ k
  nb : B = [] → b = .slice none 0 0
  below : Below n w W
  big : n ≤ W.heap.size
theorem RowIn.pts {W : World} {bb o N c : Nat} {L : List Pt} (h : Row W (.slice (some ⟨bb, o, none⟩) N c) L) (hL : L ≠ []) : PtsAt W bb o L := by
  rcases h with ⟨_, e⟩ | ⟨_, _, _, e⟩ | ⟨b, o', c', e, _, hp⟩
  · exact absurd e hL
  · exact absurd e hL
  · simp at e
    obtain ⟨⟨rfl, rfl⟩, _⟩ := e
    exact hp
/-- What the inner loop keeps. -/
structure InR (n : Nat) (w : World) (s a b : Value) (L A B : List Pt) (x : Value) (X : List Pt) (W : World) : Prop where
  row : Row W s L
  oa : Own W n 45 a A
  ob : Own W n 45 b B
  ox : Own W n 45 x X
  sx : Apart s x
  ax : Apart a x
  bx : Apart b x
  below : Below n w W
  big : n ≤ W.heap.size
theorem InR.next {n : Nat} {w : World} {s a b : Value} {L A B : List Pt} {x : Value} {X : List Pt} {W W' : World} (h : InR n w s a b L A B x X W) (hb : Below W.heap.size W W') : InR n w s a b L A B x X W' :=
  ⟨h.row.on hb, h.oa.grow hb, h.ob.grow hb, h.ox.grow hb, h.sx, h.ax, h.bx, h.below.trans (hb.mono h.big), Nat.le_trans h.big hb.size⟩
theorem InR.appended {n : Nat} {w : World} {s a b : Value} {L A B : List Pt} {x : Value} {X : List Pt} {W W' : World} (h : InR n w s a b L A B x X W) (hL : L ≠ []) {x' : Value} {X' : List Pt} (ho : Own W' n 45 x' X') (hg : W.grownBy W' x.ownBlock) (hm : Moved W x x') : InR n w s a b L A B x' X' W' :=
  ⟨h.row.kept hg h.sx, h.oa.kept hg h.ax, h.ob.kept hg h.bx, ho, h.sx.moved (h.row.lt hL) hm, h.ax.moved (fun k hk => (h.oa.lt k hk).2) hm, h.bx.moved (fun k hk => (h.ob.lt k hk).2) hm, own_below h.ox hg h.below (Nat.le_refl _) h.big, Nat.le_trans h.big hg.size⟩
/-- One more point at the first half's end. -/
theorem HvR.begin {n : Nat} {w : World} {s a b : Value} {L A B : List Pt} {W W' : World} (hr : Row W s L) (hL : L ≠ []) (oa : Own W n 45 a A) (ob : Own W n 45 b B) (sa : Apart s a) (sb : Apart s b) (ab : Apart a b) (hb : Below n w W) (hn : n ≤ W.heap.size) {a' : Value} (hg : W.grownBy W' a.ownBlock) (hm : Moved W a a') :
    Row W' s L ∧ Own W' n 45 b B ∧ Apart s a' ∧ Apart s b ∧ Apart a' b ∧ Below n w W' ∧ n ≤ W'.heap.size :=
  ⟨hr.kept hg sa, ob.kept hg ab.symm, sa.moved (hr.lt hL) hm, sb, (ab.symm.moved (fun k hk => (ob.lt k hk).2) hm).symm, own_below oa hg hb (Nat.le_refl _) hn, Nat.le_trans hn hg.size⟩
/-- The second half made anew: of a fresh row, and what it was. -/
theorem HvR.behind {n : Nat} {w : World} {s a : Value} {L A : List Pt} {W W3 W' : World} {f : Value} (hf : f.ownBlock = some W.heap.size) (h3 : Below W.heap.size W W3) (hr : Row W s L) (hL : L ≠ []) (oa : Own W n 45 a A) (hb : Below n w W) (hn : n ≤ W.heap.size) {b' : Value} {F : List Pt} (of : Own W3 n 45 f F) (hg : W3.grownBy W' f.ownBlock) (hm : Moved W3 f b') :
    Row W' s L ∧ Own W' n 45 a A ∧ Apart s b' ∧ Apart a b' ∧ Below n w W' ∧ n ≤ W'.heap.size := by
  have hs := hr.lt hL
  have ha := fun k hk => (oa.lt k hk).2
  have key : ∀ u : Value, (∀ k, u.ownBlock = some k → k < W.heap.size) → Apart u f := fun u hu => by
    unfold Apart
    cases hq : u.ownBlock with
    | none => exact .inl rfl
    | some j => right; rw [hf]; intro e; simp at e; have := hu j hq; omega
  have hb3 : Below n w W3 := hb.trans (h3.mono hn)
  have hn3 : n ≤ W3.heap.size := Nat.le_trans hn h3.size
  exact ⟨(hr.on h3).kept hg (key s hs), (oa.grow h3).kept hg (key a ha), (key s hs).moved (fun k hk => Nat.lt_of_lt_of_le (hs k hk) h3.size) hm, (key a ha).moved (fun k hk => Nat.lt_of_lt_of_le (ha k hk) h3.size) hm, own_below of hg hb3 (Nat.le_refl _) hn3, Nat.le_trans hn3 hg.size⟩
set_option maxHeartbeats 4000000 in
set_option maxRecDepth 100000 in
theorem refHalves_walk (v : Value) (l FI SE : List Pt) (w : World) (row : Row w v l) (hroom : l.all roomP = true) (hlen : l.length ≤ 4) (hF : firstG l.length l = FI) (hS : secondG l.length l = SE)
    (HMID : Hid (∀ p q : Pt, roomP p = true → roomP q = true → ∀ w', Calls Tryd.prog 45 #[.agg #[.int .i64 p.1, .int .i64 p.2], .agg #[.int .i64 q.1, .int .i64 q.2]] w' fun e w'' => e = .returned (.agg #[.int .i64 (midI p q).1, .int .i64 (midI p q).2]) ∧ Below w'.heap.size w' w'')) :
    Calls Tryd.prog 46 #[v] w fun e w' => ∃ a b, e = .returned (.tuple #[a, b]) ∧ Own w' w.heap.size 45 a FI ∧ Own w' w.heap.size 45 b SE ∧ Below w.heap.size w w' := by
  obtain ⟨n, hn⟩ : ∃ n, w.heap.size = n := ⟨_, rfl⟩
  have H0 : Hid (HvR n w FI SE 4 v (.slice none 0 0) (.slice none 0 0) w l [] []) :=
    ⟨row, Own.nil _ _ _, Own.nil _ _ _, (Apart.nil _).symm, (Apart.nil _).symm, Apart.nil _, hroom, by simpa using hF, by simpa using hS, by simpa using hlen, by simpa using hlen, hlen, fun _ => rfl, by rw [← hn]; exact Below.refl _ _, by omega⟩
  rw [hn]
  clear row hroom hlen hF hS hn
  go_enter Tryd.func46, Tryd.ntmps46
  go_wp2_with fail
  go_loopg [0, 4, 5] 4 (fun k s a b wr => ∃ L A B : List Pt, Hid (HvR n w FI SE k s a b wr L A B))
  case atStart => exact ⟨l, [], [], H0⟩
  case round =>
    obtain ⟨L, A, B, hw⟩ := hrel
    cases L with
    | nil =>
      obtain ⟨ao, c, rfl⟩ := hw.out.row.shape
      simp only [List.length_nil]
      have HE : Hid (A = FI ∧ B = SE) := ⟨by have := hw.out.fst; simpa [firstG] using this, by have := hw.out.snd; simpa [secondG] using this⟩
      go_wp2_with fail
      go_ret2
      refine ⟨_, _, rfl, ?_, ?_, hw.out.below⟩
      · rw [← HE.out.1]; exact hw.out.oa
      · rw [← HE.out.2]; exact hw.out.ob
    | cons p L' =>
      obtain ⟨ao, c, rfl⟩ := hw.out.row.shape
      obtain ⟨bb, o, rfl, hbb, hpa⟩ := hw.out.row.addr (k := 0) (by simp)
      obtain ⟨N, hN⟩ : ∃ N, (p :: L').length = N := ⟨_, rfl⟩
      obtain ⟨m, hm⟩ : ∃ m, L'.length = m := ⟨_, rfl⟩
      have hNm : N = m + 1 := by rw [← hN, List.length_cons, hm]
      have hm4 : m ≤ 3 := by have := hw.out.la; rw [hN] at this; omega
      obtain ⟨z, hz⟩ : ∃ z, (p :: L')[m]? = some z := ⟨_, List.getElem?_eq_getElem (by rw [hN]; omega)⟩
      have hzl : Hid ((p :: L').getLastD (0, 0) = z) := by
        unfold Hid
        rw [List.getLastD_eq_getLast?, List.getLast?_eq_getElem?, hN, show N - 1 = m by omega, hz]; rfl
      obtain ⟨c0, c1⟩ := hpa 0 p rfl
      simp only [Nat.zero_mul, Nat.add_zero] at c0 c1
      have HPA := Lib.hid hpa
      have HZ := Lib.hid hz
      have HLR : Hid (p :: L' ≠ []) := by unfold Hid; simp
      have HN := Lib.hid hN
      have Hm := Lib.hid hm
      have hpos : decide ((N : Int) > 0) = true := decide_eq_true (by omega)
      have hpos' : 0 < N := by omega
      have hmN : m < N := by omega
      have elast : wrap64 ((N : Int) - 1) = (m : Int) := by rw [wrapR _ (by omega) (by omega)]; omega
      have HNm := Lib.hid hNm
      rw [hN]
      clear hpa hz hN hm hNm
      have SW : Hid (Row (wr.alloc (.cells #[.int .i64 p.1, .int .i64 p.2] 45)) (.slice (some ⟨bb, o, none⟩) N c) (p :: L') ∧ Own (wr.alloc (.cells #[.int .i64 p.1, .int .i64 p.2] 45)) n 45 u4 A ∧ Own (wr.alloc (.cells #[.int .i64 p.1, .int .i64 p.2] 45)) n 45 u5 B ∧ Below n w (wr.alloc (.cells #[.int .i64 p.1, .int .i64 p.2] 45)) ∧ n ≤ (wr.alloc (.cells #[.int .i64 p.1, .int .i64 p.2] 45)).heap.size ∧ Own (wr.alloc (.cells #[.int .i64 p.1, .int .i64 p.2] 45)) n 45 (.slice (some ⟨wr.heap.size, 0, none⟩) 1 1) [p]) := by
        have hb : Below wr.heap.size wr (wr.alloc (.cells #[.int .i64 p.1, .int .i64 p.2] 45)) := (Below.refl _ _).alloc (Nat.le_refl _) _
        have hr := hw.out.row.on hb
        rw [HN.out] at hr
        exact ⟨hr, hw.out.oa.grow hb, hw.out.ob.grow hb, hw.out.below.trans (hb.mono hw.out.big), Nat.le_trans hw.out.big hb.size, Own.made wr hw.out.big _ [p] _ 1 rfl rfl (by decide)⟩
      have hla := hw.out.la
      have hlb := hw.out.lb
      rw [HN.out] at hla hlb
      have HLA := Lib.hid hla; have HLB := Lib.hid hlb
      clear hla hlb
      go_wp2_with (at_builtin; refine wpList_append_pts rfl _ _ 40 45 rfl Tryd.underlying40 infoR n u4 A rfl SW.out.2.1 (.slice (some ⟨wr.heap.size, 0, none⟩) 1 1) [p] rfl SW.out.2.2.2.2.2.row (by have := HLA.out; simp; omega) SW.out.2.2.2.2.1 ?_)
      intro a2 w2 hoa hga hma
      have SA : Hid (Row w2 (.slice (some ⟨bb, o, none⟩) N c) (p :: L') ∧ Own w2 n 45 u5 B ∧ Apart (.slice (some ⟨bb, o, none⟩) N c) a2 ∧ Apart (.slice (some ⟨bb, o, none⟩) N c) u5 ∧ Apart a2 u5 ∧ Below n w w2 ∧ n ≤ w2.heap.size) :=
        HvR.begin SW.out.1 HLR.out SW.out.2.1 SW.out.2.2.1 (by have := hw.out.sa; rw [HN.out] at this; exact this) (by have := hw.out.sb; rw [HN.out] at this; exact this) hw.out.ab SW.out.2.2.2.1 SW.out.2.2.2.2.1 hga hma
      have OA := Lib.hid hoa
      clear hoa hga hma
      obtain ⟨b2, o2, e2, hb2, hp2⟩ : ∃ b2 o2, (some (⟨bb, o, none⟩ : Addr)) = some ⟨b2, o2, none⟩ ∧ b2 < w2.heap.size ∧ PtsAt w2 b2 o2 (p :: L') := by
        have h := SA.out.1
        rw [← HN.out] at h
        exact h.addr (k := 0) (by simp)
      simp only [Option.some.injEq, Addr.mk.injEq, and_true] at e2
      obtain ⟨rfl, rfl⟩ := e2
      obtain ⟨z0, z1⟩ := hp2 m z HZ.out
      have hbl := SA.out.2.2.2.2.2.2
      have S3 : Hid (Below w2.heap.size w2 (w2.alloc (.cells #[.int .i64 z.1, .int .i64 z.2] 45)) ∧ Own (w2.alloc (.cells #[.int .i64 z.1, .int .i64 z.2] 45)) n 45 (.slice (some ⟨w2.heap.size, 0, none⟩) 1 1) [z] ∧ Row (w2.alloc (.cells #[.int .i64 z.1, .int .i64 z.2] 45)) u5 B) :=
        ⟨(Below.refl _ _).alloc (Nat.le_refl _) _, Own.made w2 hbl _ [z] _ 1 rfl rfl (by decide), (SA.out.2.1.grow ((Below.refl _ _).alloc (Nat.le_refl _) _)).row⟩
      clear hb2 hp2
      go_wp2_with (at_builtin; refine wpList_append_pts rfl _ _ 40 45 rfl Tryd.underlying40 infoR n (.slice (some ⟨w2.heap.size, 0, none⟩) 1 1) [z] rfl S3.out.2.1 u5 B rfl S3.out.2.2 (by have := HLB.out; simp; omega) (by simp; omega) ?_)
      intro b3 w3 hob hgb hmb
      have SB := Lib.hid (HvR.behind rfl S3.out.1 SA.out.1 HLR.out OA.out SA.out.2.2.2.2.2.1 hbl S3.out.2.1 hgb hmb)
      have OB := Lib.hid hob
      have AP := Lib.hid SA.out.2.2.1
      clear hob hgb hmb
      go_wp2_with fail
      go_loopw [6, 7] (fun x i wi => ∃ (k : Nat) (X : List Pt), k ≤ m ∧ i = .int .i64 k ∧ Hid (InR n w (.slice (some ⟨bb, o, none⟩) N c) a2 b3 (p :: L') (A ++ [p]) ([z] ++ B) x X wi ∧ X = (midsI (p :: L')).take k)) (fun _ i _ => m - (intOf i).toNat)
      case atStart => exact ⟨0, [], by omega, rfl, ⟨SB.out.1, SB.out.2.1, OB.out, Own.nil _ _ _, (Apart.nil _).symm, (Apart.nil _).symm, (Apart.nil _).symm, SB.out.2.2.2.2.1, SB.out.2.2.2.2.2⟩, rfl⟩
      case round =>
        obtain ⟨k, X, hk, rfl, hi⟩ := hrel
        obtain ⟨k1, hk1⟩ : ∃ k1, k + 1 = k1 := ⟨_, rfl⟩
        have eK : wrap64 ((k : Int) + 1) = (k1 : Int) := by rw [wrapR _ (by omega) (by omega)]; omega
        have HK := Lib.hid hk1
        by_cases hlt : k < m
        · have hKN : k1 < N := by have := HNm.out; omega
          have hkN : k < N := by omega
          clear hk1
          obtain ⟨p1, hp1⟩ : ∃ q, (p :: L')[k]? = some q := ⟨_, List.getElem?_eq_getElem (by rw [HN.out]; exact hkN)⟩
          obtain ⟨p2, hp2⟩ : ∃ q, (p :: L')[k1]? = some q := ⟨_, List.getElem?_eq_getElem (by rw [HN.out]; exact hKN)⟩
          have HP1 := Lib.hid hp1; have HP2 := Lib.hid hp2
          have HR1 : Hid (roomP p1 = true) := List.all_eq_true.1 hw.out.room _ (List.mem_of_getElem? hp1)
          have HR2 : Hid (roomP p2 = true) := List.all_eq_true.1 hw.out.room _ (List.mem_of_getElem? hp2)
          have HXN : Hid (X ++ [midI p1 p2] = (midsI (p :: L')).take k1) := by
            have h := midsI_at (p :: L') k p1 p2 hp1 (by rw [HK.out]; exact hp2)
            unfold Hid
            rw [← HK.out, List.take_add_one, h, hi.out.2]; rfl
          have HXL : Hid (X.length ≤ 4) := by
            unfold Hid; rw [hi.out.2, List.length_take]; omega
          have eK3 : Hid (IntKind.i64.wrap (k1 : Int) = (k1 : Int)) := by unfold Hid; rw [wrap_is]; have hk2 : k + 1 = k1 := HK.out; exact wrapR _ (by omega) (by omega)
          clear hp1 hp2
          have hd : decide ((k1 : Int) < (N : Int)) = true := decide_eq_true (by omega)
          have hd2 : decide ((k : Int) + 1 < (N : Int)) = true := decide_eq_true (by have := HK.out; omega)
          have eK2 : Hid ((k : Int) + 1 = (k1 : Int)) := by unfold Hid; have := HK.out; omega
          go_wp2_with fail
          rw [eK2.out]
          refine wp_region_put2 (by kernel_rfl) (by kernel_rfl) (by kernel_rfl) (fun b' vs w' => (b' 0 = true → vs 0 = u6) ∧ (b' 1 = true → vs 1 = .slice (some ⟨bb, o, none⟩) N c) ∧ (b' 2 = true → vs 2 = .int .i64 (k : Int)) ∧ (b' 3 = true → vs 3 = .pointer (some ⟨bb, o + k * 2, none⟩)) ∧ (b' 4 = true → vs 4 = .agg #[.int .i64 p1.1, .int .i64 p1.2]) ∧ (b' 5 = true → vs 5 = .slice (some ⟨bb, o, none⟩) N c) ∧ (b' 6 = true → vs 6 = .int .i64 (k : Int)) ∧ (b' 7 = true → vs 7 = .int .i64 (k1 : Int)) ∧ (b' 8 = true → vs 8 = .pointer (some ⟨bb, o + k1 * 2, none⟩)) ∧ (b' 9 = true → vs 9 = .agg #[.int .i64 p2.1, .int .i64 p2.2]) ∧ (b' 10 = true → vs 10 = .agg #[.int .i64 (midI p1 p2).1, .int .i64 (midI p1 p2).2]) ∧ (b' 13 = true → b' 12 = true ∧ vs 13 = vs 12) ∧ (b' 13 = false → vs 13 = u6) ∧ (b' 12 = true → b' 0 = true) ∧ Hid (RegA n w [⟨11, 45, [midI p1 p2]⟩] (fun W => InR n w (.slice (some ⟨bb, o, none⟩) N c) a2 b3 (p :: L') (A ++ [p]) ([z] ++ B) u6 X W) 12 (fun v W => InR n w (.slice (some ⟨bb, o, none⟩) N c) a2 b3 (p :: L') (A ++ [p]) ([z] ++ B) v (X ++ [midI p1 p2]) W) b' vs w')) ?_ ?_ ?_
          · intro vs hvs
            exact ⟨fun h => Bool.noConfusion h, fun h => Bool.noConfusion h, fun h => Bool.noConfusion h, fun h => Bool.noConfusion h, fun h => Bool.noConfusion h, fun h => Bool.noConfusion h, fun h => Bool.noConfusion h, fun h => Bool.noConfusion h, fun h => Bool.noConfusion h, fun h => Bool.noConfusion h, fun h => Bool.noConfusion h, fun h => Bool.noConfusion h, fun _ => hvs 13 _ _ rfl rfl, fun h => Bool.noConfusion h, RegA.start (fun _ _ h hb => h.next hb) (⟨⟨hi.out.1.below, hi.out.1.big⟩, hi.out.1⟩) vs⟩
          · rintro b' vs w' i op hi hun hall ⟨h0, h1, h2, h3, h4, h5, h6, h7, h8, h9, h10, hA, hR, hZ, hM⟩
            have hil : i < 14 := (List.getElem?_eq_some_iff.1 hi).1
            rcases i with _ | _ | _ | _ | _ | _ | _ | _ | _ | _ | _ | _ | _ | _ | i
            · obtain rfl := Option.some.inj hi
              have hz : b' 13 = false := by
                cases hzz : b' 13 with
                | false => rfl
                | true => rw [hZ (hA hzz).1] at hun; cases hun
              have hx := hR hz
              refine wpOp_step rfl (fun K hK => ?_)
              have HKK := Lib.hid hK; clear hK
              simp only [putAll, Act.put, List.setIfInBounds_toArray, List.set_cons_zero, List.set_cons_succ]
              go_simp
              exact HKK.out _ _ ⟨_, by simp only [putAll, Act.put, List.setIfInBounds_toArray, List.set_cons_zero, List.set_cons_succ, hx] <;> rfl, fun _ => rfl, h1, h2, h3, h4, h5, h6, h7, h8, h9, h10, hA, hR, fun _ => rfl, RegA.other hM.out 0 _ rfl⟩
            · obtain rfl := Option.some.inj hi
              refine wpOp_step rfl (fun K hK => ?_)
              have HKK := Lib.hid hK; clear hK
              simp only [putAll, Act.put, List.setIfInBounds_toArray, List.set_cons_zero, List.set_cons_succ]
              go_simp
              exact HKK.out _ _ ⟨_, by simp only [putAll, Act.put, List.setIfInBounds_toArray, List.set_cons_zero, List.set_cons_succ] <;> rfl, h0, fun _ => rfl, h2, h3, h4, h5, h6, h7, h8, h9, h10, hA, hR, hZ, RegA.other hM.out 1 _ rfl⟩
            · obtain rfl := Option.some.inj hi
              refine wpOp_step rfl (fun K hK => ?_)
              have HKK := Lib.hid hK; clear hK
              simp only [putAll, Act.put, List.setIfInBounds_toArray, List.set_cons_zero, List.set_cons_succ]
              go_simp
              exact HKK.out _ _ ⟨_, by simp only [putAll, Act.put, List.setIfInBounds_toArray, List.set_cons_zero, List.set_cons_succ] <;> rfl, h0, h1, fun _ => rfl, h3, h4, h5, h6, h7, h8, h9, h10, hA, hR, hZ, RegA.other hM.out 2 _ rfl⟩
            · obtain rfl := Option.some.inj hi
              have d1 := h1 (hall ⟨1, .data⟩ (by simp) rfl)
              have d2 := h2 (hall ⟨2, .data⟩ (by simp) rfl)
              refine wpOp_step rfl (fun K hK => ?_)
              have HKK := Lib.hid hK; clear hK
              simp only [putAll, Act.put, List.setIfInBounds_toArray, List.set_cons_zero, List.set_cons_succ]
              go_simp
              exact HKK.out _ _ ⟨_, by simp only [putAll, Act.put, List.setIfInBounds_toArray, List.set_cons_zero, List.set_cons_succ, d1, d2] <;> rfl, h0, h1, h2, fun _ => rfl, h4, h5, h6, h7, h8, h9, h10, hA, hR, hZ, RegA.other hM.out 3 _ rfl⟩
            · obtain rfl := Option.some.inj hi
              have d3 := h3 (hall ⟨3, .data⟩ (by simp) rfl)
              have hrow : PtsAt w' bb o (p :: L') := by
                cases hq : b' 12 with
                | false => exact RowIn.pts (RegA.facts hM.out hq).row HLR.out
                | true => exact RowIn.pts (RegA.done hM.out hq).row HLR.out
              obtain ⟨c0, c1⟩ := hrow k p1 HP1.out
              refine wpOp_step rfl (fun K hK => ?_)
              have HKK := Lib.hid hK; clear hK
              simp only [putAll, Act.put, List.setIfInBounds_toArray, List.set_cons_zero, List.set_cons_succ]
              go_simp
              exact HKK.out _ _ ⟨_, by simp only [putAll, Act.put, List.setIfInBounds_toArray, List.set_cons_zero, List.set_cons_succ, d3] <;> rfl, h0, h1, h2, h3, fun _ => rfl, h5, h6, h7, h8, h9, h10, hA, hR, hZ, RegA.other hM.out 4 _ rfl⟩
            · obtain rfl := Option.some.inj hi
              refine wpOp_step rfl (fun K hK => ?_)
              have HKK := Lib.hid hK; clear hK
              simp only [putAll, Act.put, List.setIfInBounds_toArray, List.set_cons_zero, List.set_cons_succ]
              go_simp
              exact HKK.out _ _ ⟨_, by simp only [putAll, Act.put, List.setIfInBounds_toArray, List.set_cons_zero, List.set_cons_succ] <;> rfl, h0, h1, h2, h3, h4, fun _ => rfl, h6, h7, h8, h9, h10, hA, hR, hZ, RegA.other hM.out 5 _ rfl⟩
            · obtain rfl := Option.some.inj hi
              refine wpOp_step rfl (fun K hK => ?_)
              have HKK := Lib.hid hK; clear hK
              simp only [putAll, Act.put, List.setIfInBounds_toArray, List.set_cons_zero, List.set_cons_succ]
              go_simp
              exact HKK.out _ _ ⟨_, by simp only [putAll, Act.put, List.setIfInBounds_toArray, List.set_cons_zero, List.set_cons_succ] <;> rfl, h0, h1, h2, h3, h4, h5, fun _ => rfl, h7, h8, h9, h10, hA, hR, hZ, RegA.other hM.out 6 _ rfl⟩
            · obtain rfl := Option.some.inj hi
              have d6 := h6 (hall ⟨6, .data⟩ (by simp) rfl)
              refine wpOp_step rfl (fun K hK => ?_)
              have HKK := Lib.hid hK; clear hK
              simp only [putAll, Act.put, List.setIfInBounds_toArray, List.set_cons_zero, List.set_cons_succ]
              go_simp
              exact HKK.out _ _ ⟨_, by simp only [putAll, Act.put, List.setIfInBounds_toArray, List.set_cons_zero, List.set_cons_succ, d6, eK2.out, eK3.out] <;> rfl, h0, h1, h2, h3, h4, h5, h6, fun _ => rfl, h8, h9, h10, hA, hR, hZ, RegA.other hM.out 7 _ rfl⟩
            · obtain rfl := Option.some.inj hi
              have d5 := h5 (hall ⟨5, .data⟩ (by simp) rfl)
              have d7 := h7 (hall ⟨7, .data⟩ (by simp) rfl)
              refine wpOp_step rfl (fun K hK => ?_)
              have HKK := Lib.hid hK; clear hK
              simp only [putAll, Act.put, List.setIfInBounds_toArray, List.set_cons_zero, List.set_cons_succ]
              go_simp
              exact HKK.out _ _ ⟨_, by simp only [putAll, Act.put, List.setIfInBounds_toArray, List.set_cons_zero, List.set_cons_succ, d5, d7] <;> rfl, h0, h1, h2, h3, h4, h5, h6, h7, fun _ => rfl, h9, h10, hA, hR, hZ, RegA.other hM.out 8 _ rfl⟩
            · obtain rfl := Option.some.inj hi
              have d8 := h8 (hall ⟨8, .data⟩ (by simp) rfl)
              have hrow : PtsAt w' bb o (p :: L') := by
                cases hq : b' 12 with
                | false => exact RowIn.pts (RegA.facts hM.out hq).row HLR.out
                | true => exact RowIn.pts (RegA.done hM.out hq).row HLR.out
              obtain ⟨c0, c1⟩ := hrow k1 p2 HP2.out
              refine wpOp_step rfl (fun K hK => ?_)
              have HKK := Lib.hid hK; clear hK
              simp only [putAll, Act.put, List.setIfInBounds_toArray, List.set_cons_zero, List.set_cons_succ]
              go_simp
              exact HKK.out _ _ ⟨_, by simp only [putAll, Act.put, List.setIfInBounds_toArray, List.set_cons_zero, List.set_cons_succ, d8] <;> rfl, h0, h1, h2, h3, h4, h5, h6, h7, h8, fun _ => rfl, h10, hA, hR, hZ, RegA.other hM.out 9 _ rfl⟩
            · obtain rfl := Option.some.inj hi
              have d4 := h4 (hall ⟨4, .data⟩ (by simp) rfl)
              have d9 := h9 (hall ⟨9, .data⟩ (by simp) rfl)
              refine wpOp_step rfl (fun K hK => ?_)
              have HKK := Lib.hid hK; clear hK
              simp only [putAll, Act.put, List.setIfInBounds_toArray, List.set_cons_zero, List.set_cons_succ]
              go_simp
              refine (HMID.out p1 p2 HR1.out HR2.out _).mono ?_
              rintro e w2 ⟨rfl, hb2⟩
              exact HKK.out _ _ ⟨_, by simp only [putAll, Act.put, List.setIfInBounds_toArray, List.set_cons_zero, List.set_cons_succ, d4, d9] <;> rfl, h0, h1, h2, h3, h4, h5, h6, h7, h8, h9, fun _ => rfl, hA, hR, hZ, RegA.grow (fun _ _ h hb => h.next hb) (fun _ _ _ h hb => h.next hb) (RegA.other hM.out 10 _ rfl) hb2⟩
            · obtain rfl := Option.some.inj hi
              have d10 := h10 (hall ⟨10, .data⟩ (by simp) rfl)
              refine wpOp_step rfl (fun K hK => ?_)
              have HKK := Lib.hid hK; clear hK
              simp only [putAll, Act.put, List.setIfInBounds_toArray, List.set_cons_zero, List.set_cons_succ]
              go_simp
              have hn2 : n ≤ w'.heap.size := hM.out.1.2
              exact HKK.out _ _ ⟨_, by simp only [putAll, Act.put, List.setIfInBounds_toArray, List.set_cons_zero, List.set_cons_succ, d10] <;> rfl, h0, h1, h2, h3, h4, h5, h6, h7, h8, h9, h10, hA, hR, hZ, (RegA.grow (fun _ _ h hb => h.next hb) (fun _ _ _ h hb => h.next hb) hM.out ((Below.refl _ _).alloc (Nat.le_refl _) _)).made ⟨11, 45, [midI p1 p2]⟩ _ (fun _ => Own.made w' hn2 _ [midI p1 p2] _ 1 rfl rfl (by decide)) (by simp) rfl (by simp) hun⟩
            · obtain rfl := Option.some.inj hi
              have hap : b' 12 = false := hun
              have d0 := h0 (hall ⟨0, .data⟩ (by simp) rfl)
              have o11 := RegA.row hM.out ⟨11, 45, [midI p1 p2]⟩ (by simp) (hap) (hall ⟨11, .data⟩ (by simp) rfl)
              have hall0 : b' 0 = true := hall ⟨0, .data⟩ (by simp) rfl
              have hfw := RegA.facts hM.out hap
              refine wpOp_step rfl (fun K hK => ?_)
              have HKK := Lib.hid hK; clear hK
              simp only [putAll, Act.put, List.setIfInBounds_toArray, List.set_cons_zero, List.set_cons_succ]
              refine (if_pos rfl).mpr (wp_append_pts _ _ 40 45 rfl Tryd.underlying40 infoR n _ _ d0 (hfw.ox) _ _ rfl (o11.row) (by have := HXL.out; simp; omega) hM.out.1.2 ?_)
              intro v' w2 ho2 hg2 hm2
              exact HKK.out _ _ ⟨_, by simp only [putAll, Act.put, List.setIfInBounds_toArray, List.set_cons_zero, List.set_cons_succ, d0] <;> rfl, h0, h1, h2, h3, h4, h5, h6, h7, h8, h9, h10, fun hq => (by rw [(hA hq).1] at hun; cases hun), hR, fun _ => hall0, RegA.appended hM.out hun v' (⟨own_below hfw.ox hg2 hfw.below (Nat.le_refl _) hfw.big, Nat.le_trans hfw.big hg2.size⟩) (hfw.appended HLR.out ho2 hg2 hm2) (by intro x hx; simp at hx; subst hx; exact hall ⟨11, .data⟩ (by simp) rfl)⟩
            · obtain rfl := Option.some.inj hi
              refine wpOp_step rfl (fun K hK => ?_)
              have HKK := Lib.hid hK; clear hK
              simp only [putAll, Act.put, List.setIfInBounds_toArray, List.set_cons_zero, List.set_cons_succ]
              go_simp
              exact HKK.out _ _ ⟨_, by simp only [putAll, Act.put, List.setIfInBounds_toArray, List.set_cons_zero, List.set_cons_succ] <;> rfl, h0, h1, h2, h3, h4, h5, h6, h7, h8, h9, h10, fun _ => ⟨hall ⟨12, .data⟩ (by simp) rfl, rfl⟩, fun h => Bool.noConfusion h, hZ, RegA.other hM.out 13 _ rfl⟩
            · omega
          · rintro b' vs w2 hall ⟨h0, h1, h2, h3, h4, h5, h6, h7, h8, h9, h10, hA, hR, hZ, hM⟩
            have d0 := h0 (hall 0 (by simp))
            have d1 := h1 (hall 1 (by simp))
            have d2 := h2 (hall 2 (by simp))
            have d3 := h3 (hall 3 (by simp))
            have d4 := h4 (hall 4 (by simp))
            have d5 := h5 (hall 5 (by simp))
            have d6 := h6 (hall 6 (by simp))
            have d7 := h7 (hall 7 (by simp))
            have d8 := h8 (hall 8 (by simp))
            have d9 := h9 (hall 9 (by simp))
            have d10 := h10 (hall 10 (by simp))
            have dA := (hA (hall 13 (by simp))).2
            have GG := Lib.hid (RegA.done hM.out (hall 12 (by simp)))
            have BB := Lib.hid hM.out.1
            simp only [putAll, Act.put, List.setIfInBounds_toArray, List.set_cons_zero, List.set_cons_succ, d0, d1, d2, d3, d4, d5, d6, d7, d8, d9, d10, dA]
            generalize vs 12 = va at *
            go_wp2_with fail
            have hk2 := HK.out
            exact ⟨⟨k1, X ++ [midI p1 p2], by omega, by go_num, GG.out, HXN.out⟩, by simp [intOf]; omega⟩
        · have hd : decide ((k1 : Int) < (N : Int)) = false := decide_eq_false (by have := HNm.out; omega)
          have hd2 : decide ((k : Int) + 1 < (N : Int)) = false := decide_eq_false (by have := HNm.out; omega)
          have hkm : k = m := by omega
          subst hkm
          clear hk1
          go_wp2_with fail
          have hmid : (midsI (p :: L')).length = k := by rw [midsI_length, HN.out, HNm.out]; omega
          have hX : X = midsI (p :: L') := by rw [hi.out.2, ← hmid, List.take_length]
          have hfew := hw.out.lk
          rw [HN.out, HNm.out] at hfew
          go_roundg k
          case measure => omega
          case rel =>
            have h1 := HLA.out
            have h2 := HLB.out
            have h3 := HNm.out
            have hI := hi.out.1
            rw [hX] at hI
            refine ⟨midsI (p :: L'), A ++ [p], [z] ++ B, hI.ox.row, hI.oa, hI.ob, hI.ax.symm, hI.bx.symm, SB.out.2.2.2.1, midsI_room _ hw.out.room, ?_, ?_, by rw [List.length_append, hmid]; simp; omega, by rw [List.length_append, hmid]; simp; omega, by omega, fun h => by simp at h, hI.below, hI.big⟩
            · have hf := hw.out.fst
              rw [HN.out, h3] at hf
              rw [hmid, List.append_assoc]
              exact hf
            · have hs := hw.out.snd
              rw [HN.out, h3, secondG, hzl.out, List.append_assoc] at hs
              rw [hmid]
              exact hs
theorem refHalves_c (v : Value) (l : List Pt) (w : World) (row : Row w v l) (h : curveB l = true) : Calls Tryd.prog 46 #[v] w fun e w' => ∃ a b, e = .returned (.tuple #[a, b]) ∧ Own w' w.heap.size 45 a (firstI l) ∧ Own w' w.heap.size 45 b (secondI l) ∧ Below w.heap.size w w' :=
  refHalves_walk v l (firstI l) (secondI l) w row (by unfold curveB at h; rw [Bool.and_eq_true] at h; exact h.2) (by rcases curve_cases h with ⟨p, q, r, rfl, _⟩ | ⟨p, q, r, s, rfl, _⟩ <;> simp) (firstG_eq h) (secondG_eq h) (Lib.hid fun p q hp hq w' => refMid_c p.1 p.2 q.1 q.2 w' hp hq)
end Go.Proofs.YtffgpikhahpomaaDoor

