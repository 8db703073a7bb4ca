/- Layer 12: the law DiskCounts, over what package disk answers. -/
import Derived.Test.YtohmkmekdnfkoaaBe
import Derived.Test.YtohmkmekdnfkoaaBf
import Derived.Deep.CutRange
import Derived.Deep.CutBlock
namespace Go.Proofs.Ytohmkmekdnfkoaa
open Go.RowKit
variable {At : (Nat → Prop) → World → Nat → DM → Prop}
/-- A disk that was armed with arm, ahead of each call. -/
def CntI (arm : Int) (d : DM) : Prop := (0 ≤ arm → d.armed = true ∧ d.done + d.left = arm ∧ 0 ≤ d.left ∧ (d.down = true → d.left = 0)) ∧ (arm < 0 → d.armed = false ∧ d.down = false)
theorem CntI.cmd {arm : Int} {d : DM} (h : CntI arm d) (hd : d.down = false) : CntI arm (cmdD d).1 := by
  obtain ⟨h1, h2⟩ := h
  unfold CntI cmdD
  by_cases ha : 0 ≤ arm
  · obtain ⟨e1, e2, e3, e4⟩ := h1 ha
    refine ⟨fun _ => ?_, fun h => absurd ha (by omega)⟩
    by_cases hz : d.left = 0
    · have e : cmdOut d.left d.done d.armed d.down = ((d.left, d.done, d.armed, true), 40) := by unfold cmdOut; rw [if_pos ⟨e1, hz⟩]
      rw [e]
      exact ⟨e1, e2, e3, fun _ => hz⟩
    · have e : cmdOut d.left d.done d.armed d.down = ((d.left - 1, d.done + 1, d.armed, d.down), 0) := by unfold cmdOut; rw [if_neg (fun h => hz h.2), if_pos e1]
      rw [e]
      exact ⟨e1, by show d.done + 1 + (d.left - 1) = arm; omega, by show 0 ≤ d.left - 1; omega, fun h => by rw [show (_ : Bool) = d.down from rfl, hd] at h; cases h⟩
  · obtain ⟨e1, e2⟩ := h2 (by omega)
    refine ⟨fun h => absurd h ha, fun _ => ?_⟩
    have e : cmdOut d.left d.done d.armed d.down = ((d.left, d.done + 1, d.armed, d.down), 0) := by unfold cmdOut; rw [if_neg (fun h => by rw [e1] at h; cases h.1), if_neg (fun h => by rw [e1] at h; cases h)]
    rw [e]
    exact ⟨e1, e2⟩
theorem CntI.write {arm : Int} {d : DM} (h : CntI arm d) (i : Int) (b : List Int) : CntI arm (writeD d i b).1 := by
  unfold writeD
  split
  · exact h
  · next hd =>
    split
    · exact h
    · split
      · exact h
      · exact CntI.cmd (d := { d with wait := d.wait ++ [(i, b)] }) h (by simpa using hd)
theorem CntI.sync {arm : Int} {d : DM} (h : CntI arm d) : CntI arm (syncD d).1 := by
  unfold syncD
  split
  · exact h
  · next hd =>
    split
    · exact h.cmd (by simpa using hd)
    · exact h.cmd (by simpa using hd)
theorem CntI.read {arm : Int} {d : DM} (h : CntI arm d) (i : Int) : CntI arm (readD d i).1 := by
  unfold readD
  split
  · exact h
  · split <;> exact h
theorem CntI.arm {arm : Int} : CntI arm (armD (newD 4 16) arm) :=
  ⟨fun h => ⟨decide_eq_true h, by show 0 + arm = arm; omega, h, fun e => (by cases e)⟩, fun h => ⟨decide_eq_false (by omega), rfl⟩⟩
def readsV (d : DM) : Array Value := (d.reads.map (Value.int .i64)).toArray
/-- Where the law stands: its disk, its own counts. -/
structure CntW (At : (Nat → Prop) → World → Nat → DM → Prop) (w0 wr : World) (T : Nat → Prop) (g G : Nat) (arm : Int) (d : DM) (m : Int) : Prop where
  st : St At w0 wr T g d
  ok : OkD d m
  blk : Blk wr G 51 (readsV d)
  off : ¬ T G
  far : w0.heap.size ≤ G
  cnt : CntI arm d
  four : d.sectors = 4 ∧ d.size = 16
theorem CntW.grow (H : DiskOk At) {w0 wr w' : World} {T : Nat → Prop} {g G : Nat} {arm : Int} {d : DM} {m : Int} (h : CntW At w0 wr T g G arm d m) (hb : Below wr.heap.size wr w') : CntW At w0 w' T g G arm d m :=
  ⟨h.st.grow H hb, h.ok, h.blk.grow hb, h.off, h.far, h.cnt, h.four⟩
/-- A script's call that Go can hold. -/
structure OkO (p : OpM) : Prop where
  n : rngI p.n
  fill : 0 ≤ p.fill ∧ p.fill ≤ 255
  torn : rngI p.torn
  cut : rngI p.cut
  short : rngI p.short
theorem To.blk {T T' : Nat → Prop} {w w' : World} (h : To T w T' w') {G : Nat} {t : TypeId} {cs : Array Value} (hb : Blk w G t cs) (hn : ¬ T G) : Blk w' G t cs ∧ ¬ T' G :=
  ⟨h.keep.blk hb hn, fun k => (h.new G k).elim hn fun e => absurd hb.lt (by omega)⟩
theorem cmdD_same (d : DM) : (cmdD d).1.reads = d.reads ∧ (cmdD d).1.sectors = d.sectors ∧ (cmdD d).1.size = d.size := ⟨rfl, rfl, rfl⟩
theorem writeD_same (d : DM) (i : Int) (b : List Int) : (writeD d i b).1.reads = d.reads ∧ (writeD d i b).1.sectors = d.sectors ∧ (writeD d i b).1.size = d.size := by
  unfold writeD
  split
  · exact ⟨rfl, rfl, rfl⟩
  · split
    · exact ⟨rfl, rfl, rfl⟩
    · split <;> exact ⟨rfl, rfl, rfl⟩
theorem syncD_same (d : DM) : (syncD d).1.reads = d.reads ∧ (syncD d).1.sectors = d.sectors ∧ (syncD d).1.size = d.size := by
  unfold syncD
  split
  · exact ⟨rfl, rfl, rfl⟩
  · split <;> exact ⟨rfl, rfl, rfl⟩
theorem CntW.next {w0 wr w' : World} {T T' : Nat → Prop} {g G : Nat} {arm : Int} {d d' : DM} {m m' : Int} (h : CntW At w0 wr T g G arm d m) (ht : To T wr T' w') (ha : At T' w' g d') (ok : OkD d' m') (hs : d'.reads = d.reads ∧ d'.sectors = d.sectors ∧ d'.size = d.size) (hc : CntI arm d') : CntW At w0 w' T' g G arm d' m' :=
  ⟨h.st.step ht ha, ok, by unfold readsV; rw [hs.1]; exact (ht.blk h.blk h.off).1, (ht.blk h.blk h.off).2, h.far, hc, hs.2.1.trans h.four.1, hs.2.2.trans h.four.2⟩
theorem CntW.write {w0 wr w' : World} {T T' : Nat → Prop} {g G : Nat} {arm : Int} {d : DM} {m : Int} (h : CntW At w0 wr T g G arm d m) (ht : To T wr T' w') {i : Int} {b : List Int} (ha : At T' w' g (writeD d i b).1) (hb : OkB b) : CntW At w0 w' T' g G arm (writeD d i b).1 (m + 1) :=
  h.next ht ha (h.ok.write i hb) (writeD_same d i b) (h.cnt.write i b)
theorem CntW.sync {w0 wr w' : World} {T T' : Nat → Prop} {g G : Nat} {arm : Int} {d : DM} {m : Int} (h : CntW At w0 wr T g G arm d m) (ht : To T wr T' w') (ha : At T' w' g (syncD d).1) (hm : 0 ≤ m) : CntW At w0 w' T' g G arm (syncD d).1 (m + 1) :=
  h.next ht ha (h.ok.sync hm) (syncD_same d) h.cnt.sync
theorem CntW.mono {w0 wr : World} {T : Nat → Prop} {g G : Nat} {arm : Int} {d : DM} {m m' : Int} (h : CntW At w0 wr T g G arm d m) (hm : m ≤ m') : CntW At w0 wr T g G arm d m' := ⟨h.st, h.ok.mono hm, h.blk, h.off, h.far, h.cnt, h.four⟩
theorem readD_cases (d : DM) (i : Int) : readD d i = (d, 40, []) ∨ readD d i = (d, 30, []) ∨ (0 ≤ i ∧ i < d.sectors ∧ readD d i = ({ d with reads := d.reads.set i.toNat (d.reads.getD i.toNat 0 + 1) }, 0, secD d i)) := by
  unfold readD
  split
  · exact .inl rfl
  · split
    · exact .inr (.inl rfl)
    · next h =>
      have h : hasD d i = true := by simpa using h
      unfold hasD at h
      rw [Bool.and_eq_true, decide_eq_true_eq, decide_eq_true_eq] at h
      exact .inr (.inr ⟨h.1, h.2, rfl⟩)
/-- The law's own count goes up with the disk's. -/
theorem CntW.count (H : DiskOk At) {w0 wr w' : World} {T T' : Nat → Prop} {g G : Nat} {arm : Int} {d : DM} {m : Int} (h : CntW At w0 wr T g G arm d m) (ht : To T wr T' w') {q : Nat} (e : readD d (q : Int) = ({ d with reads := d.reads.set q (d.reads.getD q 0 + 1) }, 0, secD d q)) (ha : At T' w' g (readD d (q : Int)).1) (hm : 0 ≤ m) :
    CntW At w0 (w'.setCell ⟨G, q, none⟩ (.int .i64 (d.reads.getD q 0 + 1))) T' g G arm (readD d (q : Int)).1 (m + 1) := by
  obtain ⟨hb, hn⟩ := ht.blk h.blk h.off
  have st := h.st.step ht ha
  have hk : ∀ S : Nat → Prop, ¬ S G → Keep S w' (w'.setCell ⟨G, q, none⟩ (.int .i64 (d.reads.getD q 0 + 1))) := fun S hs => Keep.setCell _ _ _ hs
  refine ⟨⟨H.keep ha (hk T' hn), st.far, st.below.setCell h.far _⟩, h.ok.read hm _, ?_, hn, h.far, h.cnt.read _, ?_⟩
  · refine hb.put q _ _ ?_
    rw [e]
    unfold readsV
    rw [List.setIfInBounds_toArray]
    show (List.set (d.reads.map (Value.int .i64)) q _).toArray = ((d.reads.set q _).map (Value.int .i64)).toArray
    rw [List.map_set]
  · rw [e]; exact h.four
set_option maxHeartbeats 4000000 in
set_option maxRecDepth 100000 in
theorem counts_law (H : DiskOk At) (HA : AwakeOk) (s : Value) (L : List OpM) (arm : Int) (w : World) (hr : RowO w s L) (hl : L.length ≤ 9223372036854775807) (hm : rngI arm) (hop : ∀ p ∈ L, OkO p) : Calls Try.prog 5 #[s, .int .i64 arm] w fun e w' => e = .returned (.bool true) ∧ Below w.heap.size w w' := by
  have HR := Lib.hid hr
  have HOP := Lib.hid hop
  have HN := Lib.hid (H.new 4 16 w (by unfold diskOkI; omega))
  have HM := Lib.hid hm
  have HL := Lib.hid hl
  have O0 : Hid (OkD (newD 4 16) 0) := OkD.new (by unfold diskOkI; omega) (by decide) (by omega)
  obtain ⟨ao, ac, rfl⟩ := hr.shape
  clear hr hm hl hop
  go_enter Try.func5, Try.ntmps5
  go_wp2_with fail
  refine (HN.out).mono ?_
  rintro e w1 ⟨T0, g, rfl, ha, hb, hf⟩
  have S0 : Hid (St At w w1 T0 g (newD 4 16)) := ⟨ha, hf, hb⟩
  clear ha hb hf HN
  go_wp2_with fail
  refine (small_c _ L 60 w1 (HR.out.on S0.out.below) HL.out (by unfold rngI; omega)).mono ?_
  rintro e w2 ⟨rfl, hb⟩
  have S1 := Lib.hid (S0.out.grow H hb)
  clear hb S0
  cases hsm : smallI L 60
  · go_wp2_with fail
    refine (HA w2).mono ?_
    rintro e w3 ⟨rfl, hb⟩
    have HB9 : Hid (Below w.heap.size w w3) := S1.out.below.trans (hb.mono S1.out.below.size)
    clear hb
    go_wp2_with fail
    go_ret
    exact ⟨rfl, HB9.out⟩
  have hlen : L.length ≤ 60 := by
    unfold smallI at hsm
    rw [Bool.and_eq_true, decide_eq_true_eq] at hsm
    omega
  obtain ⟨n, hn⟩ : ∃ n, L.length = n := ⟨_, rfl⟩
  rw [hn] at HR hlen ⊢
  have HNN := Lib.hid (And.intro hn hlen)
  clear hn hlen
  go_wp2_with fail
  refine (H.arm T0 w2 g _ arm S1.out.at' (O0.out.mono (by decide)) HM.out).mono ?_
  rintro e w3 ⟨T1, rfl, ha, ht⟩
  have S2 : Hid (St At w w3 T1 g (armD (newD 4 16) arm) ∧ OkD (armD (newD 4 16) arm) 0) := ⟨S1.out.step ht ha, O0.out.arm HM.out⟩
  clear ha ht S1 O0
  go_upto_region 6 with fail
  obtain ⟨G, hG⟩ : ∃ G, w3.heap.size = G := ⟨_, rfl⟩
  obtain ⟨w4, hw4⟩ : ∃ WW, w3.alloc (.cells #[.int .i64 0, .int .i64 0, .int .i64 0, .int .i64 0] 51) = WW := ⟨_, rfl⟩
  have S3 : Hid (CntW At w w4 T1 g G arm (armD (newD 4 16) arm) 0) := by
    rw [← hw4, ← hG]
    have hb : Below w3.heap.size w3 (w3.alloc (.cells #[.int .i64 0, .int .i64 0, .int .i64 0, .int .i64 0] 51)) := (Below.refl _ _).alloc (Nat.le_refl _) _
    exact ⟨S2.out.1.grow H hb, S2.out.2, Blk.new _ _ _, fun hT => Nat.lt_irrefl _ (H.lt S2.out.1.at' hT), S2.out.1.below.size, CntI.arm, rfl, rfl⟩
  rw [hw4, hG]
  clear hw4 hG S2
  go_wp2_with fail
  go_loopw [30] (fun s30 wr => ∃ k : Nat, k ≤ n ∧ s30 = .int .i64 (k : Int) ∧ Hid (∃ T d, CntW At w wr T g G arm d k)) (fun s30 _ => n - (intOf s30).toNat)
  case atStart => exact ⟨0, by omega, rfl, T1, _, S3.out⟩
  case round =>
    obtain ⟨k, hk, rfl, hw⟩ := hrel
    obtain ⟨T, d, W0⟩ := hw.out
    have W := Lib.hid W0
    clear W0 hw S3
    by_cases hlt : k < n
    · have hd : decide ((k : Int) < (n : Int)) = true := by simp; omega
      have hki : (k : Int) < (n : Int) := by omega
      have ek : wrap64 ((k : Int) + 1) = ((k + 1 : Nat) : Int) := by have := HNN.out; rw [wrapR _ (by omega) (by omega)]; omega
      obtain ⟨sb, so, rfl, hsb, hsc⟩ := RowO.addr HR.out (by rw [HNN.out.1]; omega)
      obtain ⟨p, hp⟩ : ∃ p, L[k]? = some p := ⟨_, List.getElem?_eq_getElem (by rw [HNN.out.1]; exact hlt)⟩
      obtain ⟨c0, c1, c2, c3, c4, c5, c6⟩ := (hsc k p hp).on W.out.st.below hsb
      obtain ⟨ks, kc, hkv⟩ := (HR.out.2 p (List.mem_of_getElem? hp)).shape
      rw [hkv] at c4
      generalize p.keep.length = kn at c4
      clear hsb hsc hkv
      go_upto_block 2 with fail
      obtain ⟨wx, hwx⟩ : ∃ WW, wr.alloc (.cells #[.int .i64 p.kind, .int .i64 p.n, .int .u8 p.fill, .int .i64 p.short, .slice ks kn kc, .int .i64 p.torn, .int .i64 p.cut] 34) = WW := ⟨_, rfl⟩
      obtain ⟨Go, hGo⟩ : ∃ G, wr.heap.size = G := ⟨_, rfl⟩
      have X : Hid (CntW At w wx T g G arm d k ∧ Blk wx Go 34 #[.int .i64 p.kind, .int .i64 p.n, .int .u8 p.fill, .int .i64 p.short, .slice ks kn kc, .int .i64 p.torn, .int .i64 p.cut] ∧ ¬ T Go) := by
        rw [← hwx, ← hGo]
        exact ⟨W.out.grow H ((Below.refl _ _).alloc (Nat.le_refl _) _), Blk.new _ _ _, fun hT => Nat.lt_irrefl _ (H.lt W.out.st.at' hT)⟩
      rw [hwx, hGo]
      clear hwx hGo W c0 c1 c2 c3 c4 c5 c6
      have k0 : wx.cell? ⟨Go, 0, none⟩ = some (.int .i64 p.kind) := X.out.2.1.cell 0
      go_cut [9, 10, 30] from 30 to 103 (fun s9 s10 s30 wr => s30 = .int .i64 (k : Int) ∧ Hid (∃ T d, CntW At w wr T g G arm d (k + 1)))
      case first =>
        have HXG : Hid (∀ A, Below wx.heap.size wx A → CntW At w A T g G arm d k ∧ Blk A Go 34 #[.int .i64 p.kind, .int .i64 p.n, .int .u8 p.fill, .int .i64 p.short, .slice ks kn kc, .int .i64 p.torn, .int .i64 p.cut]) := fun A hA => ⟨X.out.1.grow H hA, X.out.2.1.grow hA⟩
        have HOK : Hid ((k : Int) ≤ 1000 ∧ rngI p.n ∧ OkB (List.replicate 16 p.fill)) := ⟨by have := HNN.out.2; omega, (HOP.out p (List.mem_of_getElem? hp)).n, okB_rep (HOP.out p (List.mem_of_getElem? hp)).fill⟩
        clear hp
        generalize p.kind = pk at *
        by_cases h1 : pk = 1
        · subst h1
          go_upto_region 11 with fail
          refine wp_region_put (by kernel_rfl) (by kernel_rfl) (by kernel_rfl) (fun b' vs w' => (b' 0 = true → vs 0 = .pointer (some ⟨g, 0, none⟩)) ∧ (b' 1 = true → vs 1 = .pointer (some ⟨Go, 1, none⟩)) ∧ (b' 2 = true → vs 2 = .int .i64 p.n) ∧ (b' 3 = true → vs 3 = .pointer (some ⟨Go, 2, none⟩)) ∧ (b' 4 = true → vs 4 = .int .u8 p.fill) ∧ (b' 5 = true → b' 6 = false → Hid (OwnB w' wx.heap.size (vs 5) (List.replicate 16 p.fill) ∧ ∀ k, Value.ownBlock (vs 5) = some k → ¬ T k)) ∧ (b' 6 = false → Hid (Below wx.heap.size wx w' ∧ wx.heap.size ≤ w'.heap.size)) ∧ (b' 6 = true → Hid (∃ T d, CntW At w w' T g G arm d (k + 1))) ∧ (b' 5 = true → b' 4 = true) ∧ (b' 6 = true → b' 2 = true) ∧ (b' 6 = true → b' 4 = true) ∧ (b' 6 = true → b' 5 = true)) ?_ ?_ ?_
          · intro vs
            exact ⟨fun h => Bool.noConfusion h, fun h => Bool.noConfusion h, fun h => Bool.noConfusion h, fun h => Bool.noConfusion h, fun h => Bool.noConfusion h, fun h => Bool.noConfusion h, fun _ => Lib.hid ⟨below_drewN (Below.refl _ _) 1, Nat.le_refl _⟩, fun h => Bool.noConfusion h, fun h => Bool.noConfusion h, fun h => Bool.noConfusion h, fun h => Bool.noConfusion h, fun h => Bool.noConfusion h⟩
          · rintro b' vs w' i op hi hun hall ⟨h0, h1, h2, h3, h4, y5, hB, hG, hE5_4, hW2, hW4, hW5⟩
            have hil : i < 7 := (List.getElem?_eq_some_iff.1 hi).1
            rcases i with _ | _ | _ | _ | _ | _ | _ | i
            · obtain rfl := Option.some.inj hi
              clear hi hil
              refine wpOp_step rfl (fun K hK => ?_)
              have HKK := Lib.hid hK; clear hK
              simp only [putAll, Act.put, List.setIfInBounds_toArray, List.set_cons_zero, List.set_cons_succ]
              go_simp
              exact HKK.out _ _ ⟨_, by simp only [putAll, Act.put, List.setIfInBounds_toArray, List.set_cons_zero, List.set_cons_succ] <;> rfl, fun _ => rfl, h1, h2, h3, h4, y5, hB, hG, hE5_4, hW2, hW4, hW5⟩
            · obtain rfl := Option.some.inj hi
              clear hi hil
              refine wpOp_step rfl (fun K hK => ?_)
              have HKK := Lib.hid hK; clear hK
              simp only [putAll, Act.put, List.setIfInBounds_toArray, List.set_cons_zero, List.set_cons_succ]
              go_simp
              exact HKK.out _ _ ⟨_, by simp only [putAll, Act.put, List.setIfInBounds_toArray, List.set_cons_zero, List.set_cons_succ] <;> rfl, h0, fun _ => rfl, h2, h3, h4, y5, hB, hG, hE5_4, hW2, hW4, hW5⟩
            · obtain rfl := Option.some.inj hi
              clear hi hil
              have hap : b' 6 = false := by
                cases hz : b' 6 with
                | false => rfl
                | true => exact absurd (hW2 hz) (by rw [hun]; decide)
              have d1 := h1 (hall ⟨1, .data⟩ (by simp) rfl)
              have m1 : w'.cell? ⟨Go, 1, none⟩ = some (.int .i64 p.n) := (HXG.out w' (hB hap).out.1).2.cell 1
              refine wpOp_step rfl (fun K hK => ?_)
              have HKK := Lib.hid hK; clear hK
              simp only [putAll, Act.put, List.setIfInBounds_toArray, List.set_cons_zero, List.set_cons_succ]
              go_simp
              exact HKK.out _ _ ⟨_, by simp only [putAll, Act.put, List.setIfInBounds_toArray, List.set_cons_zero, List.set_cons_succ, d1] <;> rfl, h0, h1, fun _ => rfl, h3, h4, y5, hB, hG, hE5_4, fun _ => rfl, hW4, hW5⟩
            · obtain rfl := Option.some.inj hi
              clear hi hil
              refine wpOp_step rfl (fun K hK => ?_)
              have HKK := Lib.hid hK; clear hK
              simp only [putAll, Act.put, List.setIfInBounds_toArray, List.set_cons_zero, List.set_cons_succ]
              go_simp
              exact HKK.out _ _ ⟨_, by simp only [putAll, Act.put, List.setIfInBounds_toArray, List.set_cons_zero, List.set_cons_succ] <;> rfl, h0, h1, h2, fun _ => rfl, h4, y5, hB, hG, hE5_4, hW2, hW4, hW5⟩
            · obtain rfl := Option.some.inj hi
              clear hi hil
              have hap : b' 6 = false := by
                cases hz : b' 6 with
                | false => rfl
                | true => exact absurd (hW4 hz) (by rw [hun]; decide)
              have d3 := h3 (hall ⟨3, .data⟩ (by simp) rfl)
              have m2 : w'.cell? ⟨Go, 2, none⟩ = some (.int .u8 p.fill) := (HXG.out w' (hB hap).out.1).2.cell 2
              refine wpOp_step rfl (fun K hK => ?_)
              have HKK := Lib.hid hK; clear hK
              simp only [putAll, Act.put, List.setIfInBounds_toArray, List.set_cons_zero, List.set_cons_succ]
              go_simp
              exact HKK.out _ _ ⟨_, by simp only [putAll, Act.put, List.setIfInBounds_toArray, List.set_cons_zero, List.set_cons_succ, d3] <;> rfl, h0, h1, h2, h3, fun _ => rfl, y5, hB, hG, fun _ => rfl, hW2, fun _ => rfl, hW5⟩
            · obtain rfl := Option.some.inj hi
              clear hi hil
              have hap : b' 6 = false := by
                cases hz : b' 6 with
                | false => rfl
                | true => exact absurd (hW5 hz) (by rw [hun]; decide)
              have d4 := h4 (hall ⟨4, .data⟩ (by simp) rfl)
              refine wpOp_step rfl (fun K hK => ?_)
              have HKK := Lib.hid hK; clear hK
              simp only [putAll, Act.put, List.setIfInBounds_toArray, List.set_cons_zero, List.set_cons_succ]
              go_simp
              refine (fill_c 16 p.fill (by decide) w').mono ?_
              rintro e w2 ⟨v2, rfl, ho2, hb2⟩
              exact HKK.out _ _ ⟨_, by simp only [putAll, Act.put, List.setIfInBounds_toArray, List.set_cons_zero, List.set_cons_succ, d4] <;> rfl, h0, h1, h2, h3, h4, fun _ _ => Lib.hid (⟨owns_base ho2 (hB hap).out.2, (HXG.out w' (hB hap).out.1).1.st.off H ho2⟩), fun ha => Lib.hid ⟨(hB ha).out.1.trans (hb2.mono (hB ha).out.2), Nat.le_trans (hB ha).out.2 hb2.size⟩, fun h => absurd (show b' 6 = true from h) (by rw [hap]; decide), fun _ => hall ⟨4, .data⟩ (by simp) rfl, hW2, hW4, fun _ => rfl⟩
            · obtain rfl := Option.some.inj hi
              clear hi hil
              have hap : b' 6 = false := hun
              have d0 := h0 (hall ⟨0, .data⟩ (by simp) rfl)
              have d2 := h2 (hall ⟨2, .data⟩ (by simp) rfl)
              have o5 := y5 (hall ⟨5, .data⟩ (by simp) rfl) hap
              refine wpOp_step rfl (fun K hK => ?_)
              have HKK := Lib.hid hK; clear hK
              simp only [putAll, Act.put, List.setIfInBounds_toArray, List.set_cons_zero, List.set_cons_succ]
              go_simp
              refine (H.write T w' g d p.n _ _ (HXG.out w' (hB hap).out.1).1.st.at' ((HXG.out w' (hB hap).out.1).1.ok.mono HOK.out.1) HOK.out.2.1 o5.out.1.row o5.out.1.cap (by simp) HOK.out.2.2 o5.out.2).mono ?_
              rintro e w2 ⟨T2, rfl, ha2, ht2⟩
              exact HKK.out _ _ ⟨_, by simp only [putAll, Act.put, List.setIfInBounds_toArray, List.set_cons_zero, List.set_cons_succ, d0, d2] <;> rfl, h0, h1, h2, h3, h4, fun _ h => Bool.noConfusion h, fun h => Bool.noConfusion h, fun _ => Lib.hid (⟨T2, _, (HXG.out w' (hB hap).out.1).1.write ht2 ha2 HOK.out.2.2⟩), hE5_4, fun _ => hall ⟨2, .data⟩ (by simp) rfl, fun _ => hE5_4 (hall ⟨5, .data⟩ (by simp) rfl), fun _ => hall ⟨5, .data⟩ (by simp) rfl⟩
            · omega
          · rintro b' vs wz hall ⟨h0, h1, h2, h3, h4, y5, hB, hG, hE5_4, hW2, hW4, hW5⟩
            have d0 := h0 (hall 0 (by simp))
            have d1 := h1 (hall 1 (by simp))
            have d2 := h2 (hall 2 (by simp))
            have d3 := h3 (hall 3 (by simp))
            have d4 := h4 (hall 4 (by simp))
            have GG := hG (hall 6 (by simp))
            simp only [putAll, Act.put, List.setIfInBounds_toArray, List.set_cons_zero, List.set_cons_succ, d0, d1, d2, d3, d4]
            clear hall h0 d0 h1 d1 h2 d2 h3 d3 h4 d4 y5 hB hG hE5_4 hW2 hW4 hW5
            go_wp2_with fail
            go_meet
            exact ⟨rfl, GG⟩

        · have e1 : (pk == 1) = false := by simpa using h1
          by_cases h2 : pk = 2
          · subst h2
            have m1 : wx.cell? ⟨Go, 1, none⟩ = some (.int .i64 p.n) := X.out.2.1.cell 1
            go_wp2_with fail
            refine (H.read T wx g d p.n X.out.1.st.at' (X.out.1.ok.mono HOK.out.1) HOK.out.2.1).mono ?_
            rintro e wy ⟨T2, v, rfl, ha, ht, ho, _⟩
            obtain ⟨vo, vc, rfl⟩ := ho.shape
            have HA2 : Hid (To T wx T2 wy ∧ At T2 wy g (readD d p.n).1) := ⟨ht, ha⟩
            clear ho ha ht
            rcases readD_cases d p.n with he | he | ⟨hi0, hi1, he⟩
            · have HM2 : Hid (∃ T d, CntW At w wy T g G arm d (k + 1)) := ⟨T2, _, (X.out.1.next HA2.out.1 (by have := HA2.out.2; rw [he] at this; exact this) (X.out.1.ok) ⟨rfl, rfl, rfl⟩ X.out.1.cnt).mono (by omega)⟩
              rw [he]
              clear he
              generalize List.length _ = vl
              go_wp2_with fail
              go_meet
              exact ⟨rfl, HM2⟩
            · have HM2 : Hid (∃ T d, CntW At w wy T g G arm d (k + 1)) := ⟨T2, _, (X.out.1.next HA2.out.1 (by have := HA2.out.2; rw [he] at this; exact this) (X.out.1.ok) ⟨rfl, rfl, rfl⟩ X.out.1.cnt).mono (by omega)⟩
              rw [he]
              clear he
              generalize List.length _ = vl
              go_wp2_with fail
              go_meet
              exact ⟨rfl, HM2⟩
            · obtain ⟨q, hq⟩ : ∃ q : Nat, p.n = (q : Int) := ⟨p.n.toNat, by omega⟩
              have hq4 : q < 4 := by have := X.out.1.four.1; omega
              have HBG := (HA2.out.1.blk X.out.2.1 X.out.2.2).1
              have HBR := (HA2.out.1.blk X.out.1.blk X.out.1.off).1
              have hrl : q < d.reads.length := by have := X.out.1.ok.rlen; have := X.out.1.four.1; omega
              obtain ⟨r, hr⟩ : ∃ r, d.reads.getD q 0 = r := ⟨_, rfl⟩
              have hrr : 0 ≤ r ∧ r ≤ 1000 := by
                rw [List.getD_eq_getElem?_getD, List.getElem?_eq_getElem hrl] at hr
                have := X.out.1.ok.reads _ (List.getElem_mem hrl)
                have := HOK.out.1
                have e : d.reads[q] = r := hr
                omega
              rw [hq] at he HA2
              have HC := Lib.hid (X.out.1.count H HA2.out.1 (q := q) (by rw [he]; rfl) HA2.out.2 (by omega))
              rw [hr] at HC
              rw [hq] at HBG ⊢
              rw [he]
              have m1 : wy.cell? ⟨Go, 1, none⟩ = some (.int .i64 (q : Int)) := HBG.cell 1
              have m2 : wy.cell? ⟨G, q, none⟩ = some (.int .i64 r) := by
                rw [HBR.cell]
                unfold readsV
                rw [List.getElem?_toArray, List.getElem?_map, List.getElem?_eq_getElem hrl]
                rw [List.getD_eq_getElem?_getD, List.getElem?_eq_getElem hrl] at hr
                show some (Value.int .i64 d.reads[q]) = _
                rw [show d.reads[q] = r from hr]
              have fr := HBR.free q
              have lg := HBR.lt
              have er : wrap64 (r + 1) = r + 1 := wrapR _ (by omega) (by omega)
              have hq0 : (0 : Int) ≤ (q : Int) := by omega
              have hq4' : (q : Int) < 4 := by omega
              obtain ⟨wz, hwz⟩ : ∃ WW, wy.setCell ⟨G, q, none⟩ (.int .i64 (r + 1)) = WW := ⟨_, rfl⟩
              rw [hwz] at HC
              have HM2 : Hid (∃ T d, CntW At w wz T g G arm d (k + 1)) := ⟨T2, _, HC.out⟩
              generalize List.length _ = vl
              clear he HA2 HC hr hrl HBG HBR hi0 hi1
              go_wp2_with fail
              go_meet
              exact ⟨rfl, HM2⟩
          · have e2 : (pk == 2) = false := by simpa using h2
            by_cases h3 : pk = 3
            · subst h3
              go_wp2_with fail
              refine (H.sync T wx g d X.out.1.st.at' (X.out.1.ok.mono HOK.out.1)).mono ?_
              rintro e wy ⟨T2, rfl, ha, ht⟩
              have HM2 : Hid (∃ T d, CntW At w wy T g G arm d (k + 1)) := ⟨T2, _, X.out.1.sync ht ha (by omega)⟩
              clear ha ht
              go_wp2_with fail
              go_meet
              exact ⟨rfl, HM2⟩
            · have e3 : (pk == 3) = false := by simpa using h3
              have HM2 : Hid (∃ T d, CntW At w wx T g G arm d (k + 1)) := ⟨T, _, X.out.1.mono (by omega)⟩
              go_wp2_with fail
              go_meet
              exact ⟨rfl, HM2⟩
      case rest =>
        obtain ⟨rfl, hX⟩ := hcut
        obtain ⟨T', d', W0⟩ := hX.out
        have W := Lib.hid W0
        have HKK := Lib.hid (show (k : Int) + 1 ≤ 1000 by have := HNN.out.2; omega)
        clear W0 hX X k0 hp
        go_wp2_with fail
        go_loopw [66] (fun s66 wj => ∃ j : Nat, j ≤ 4 ∧ s66 = .int .i64 (j : Int) ∧ Hid (CntW At w wj T' g G arm d' (k + 1))) (fun s66 _ => 4 - (intOf s66).toNat)
        case atStart => exact ⟨0, by omega, rfl, W.out⟩
        case round =>
          obtain ⟨j, hj, rfl, hwj⟩ := hrel
          by_cases hjl : j < 4
          · have hd2 : decide ((j : Int) < 4) = true := by simp; omega
            have hji : (j : Int) < 4 := by omega
            have ej : wrap64 ((j : Int) + 1) = ((j + 1 : Nat) : Int) := by rw [wrapR _ (by omega) (by omega)]; omega
            obtain ⟨r, hr⟩ : ∃ r, readsD d' (j : Int) = r := ⟨_, rfl⟩
            have HGG : Hid (∀ A, Below wr.heap.size wr A → Calls Try.prog 24 #[ptrD g, .int .i64 (j : Int)] A (fun e w' => e = .returned (.int .i64 r) ∧ Below A.heap.size A w') ∧ A.cell? ⟨G, j, none⟩ = some (.int .i64 r)) := fun A hA => by
              have W2 := hwj.out.grow H hA
              refine ⟨hr ▸ H.reads T' A g d' (j : Int) W2.st.at' (W2.ok.mono HKK.out) (by unfold rngI; omega), ?_⟩
              have h4 := W2.four.1
              have hrl : j < d'.reads.length := by have := W2.ok.rlen; omega
              unfold readsD hasD at hr
              rw [h4, decide_eq_true (by omega), decide_eq_true hji, Bool.and_self, if_pos rfl, Int.toNat_natCast, List.getD_eq_getElem?_getD, List.getElem?_eq_getElem hrl] at hr
              rw [W2.blk.cell]
              unfold readsV
              rw [List.getElem?_toArray, List.getElem?_map, List.getElem?_eq_getElem hrl]
              show some (Value.int .i64 d'.reads[j]) = _
              rw [show d'.reads[j] = r from hr]
            go_upto_region 21 with fail
            refine wp_region_quiet (C := Out wr) (by kernel_rfl) (by kernel_rfl) ⟨rfl, rfl, rfl, Nat.le_refl _, fun _ _ => rfl⟩ ?_
            refine BigFrame.wpQuiet_want rfl (fun K hK => ?_)
            refine quiet_val (.pointer (some ⟨g, 0, none⟩)) (fun w' hw' => by go_simp) (hK _ ?_)
            clear hK K
            simp only [Act.put, List.setIfInBounds_toArray, List.set_cons_zero, List.set_cons_succ]
            refine BigFrame.wpQuiet_want rfl (fun K hK => ?_)
            refine quiet_val (.int .i64 (j : Int)) (fun w' hw' => by go_simp) (hK _ ?_)
            clear hK K
            simp only [Act.put, List.setIfInBounds_toArray, List.set_cons_zero, List.set_cons_succ]
            refine BigFrame.wpQuiet_want rfl (fun K hK => ?_)
            refine quiet_call 24 #[.pointer (some ⟨g, 0, none⟩), .int .i64 (j : Int)] (.int .i64 r) (fun w' _ => by go_simp) (fun w' hw' => Calls.out hw' ((HGG.out w' hw').1)) (hK _ ?_)
            clear hK K
            simp only [Act.put, List.setIfInBounds_toArray, List.set_cons_zero, List.set_cons_succ]
            refine BigFrame.wpQuiet_want rfl (fun K hK => ?_)
            refine quiet_val (.int .i64 (j : Int)) (fun w' hw' => by go_simp) (hK _ ?_)
            clear hK K
            simp only [Act.put, List.setIfInBounds_toArray, List.set_cons_zero, List.set_cons_succ]
            refine BigFrame.wpQuiet_want rfl (fun K hK => ?_)
            refine quiet_val (.pointer (some ⟨G, j, none⟩)) (fun w' hw' => by go_simp) (hK _ ?_)
            clear hK K
            simp only [Act.put, List.setIfInBounds_toArray, List.set_cons_zero, List.set_cons_succ]
            refine BigFrame.wpQuiet_want rfl (fun K hK => ?_)
            refine quiet_val (.int .i64 r) (fun w' hw' => by have m1 := (HGG.out w' hw').2; go_simp) (hK _ ?_)
            clear hK K
            simp only [Act.put, List.setIfInBounds_toArray, List.set_cons_zero, List.set_cons_succ]
            refine BigFrame.wpQuiet_want rfl (fun K hK => ?_)
            refine quiet_val (.bool false) (fun w' hw' => by go_simp) (hK _ ?_)
            clear hK K
            simp only [Act.put, List.setIfInBounds_toArray, List.set_cons_zero, List.set_cons_succ]
            refine wpQuiet_nil ?_
            intro wq hbq
            have WQ : Hid (CntW At w wq T' g G arm d' (k + 1)) := hwj.out.grow H hbq
            clear hbq HGG
            go_wp2_with fail
            exact ⟨⟨j + 1, by omega, by rw [show ((j : Int) + 1) = ((j + 1 : Nat) : Int) by omega], WQ.out⟩, by simp [intOf]; omega⟩
          · have hd2 : decide ((j : Int) < 4) = false := by simp; omega
            have WJ := Lib.hid hwj.out
            clear hwj W
            by_cases harm : 0 ≤ arm
            · have da : decide (arm ≥ 0) = true := by simpa using harm
              obtain ⟨a1, a2, a3, a4⟩ := WJ.out.cnt.1 harm
              have HDN : Hid (∀ A m, CntW At w A T' g G arm d' m → m ≤ 1000 → Calls Try.prog 11 #[ptrD g] A (fun e w' => e = .returned (.int .i64 d'.done) ∧ Below A.heap.size A w')) := fun A m h hm => H.done T' A g d' h.st.at' (h.ok.mono hm)
              have dg : decide (d'.done > arm) = false := by simp; omega
              have HD0 : Hid (d'.down = true → d'.done = arm) := fun h => by have := a4 h; omega
              generalize d'.done = dn at *
              clear a1 a2 a3 a4
              go_wp2_with fail
              refine (HDN.out _ _ WJ.out HKK.out).mono ?_
              rintro e wa ⟨rfl, hb⟩
              have WA := Lib.hid (WJ.out.grow H hb)
              clear hb WJ
              go_wp2_with fail
              refine (H.down T' wa g d' WA.out.st.at' (WA.out.ok.mono HKK.out)).mono ?_
              rintro e wb ⟨rfl, hb⟩
              have WB := Lib.hid (WA.out.grow H hb)
              clear hb WA
              cases hdn : d'.down
              · go_wp2_with fail
                exact ⟨⟨k + 1, by omega, by rw [ek], T', d', WB.out⟩, by rw [ek]; simp [intOf]; omega⟩
              · have e0 := HD0.out hdn
                clear HD0
                subst e0
                go_wp2_with fail
                refine (HDN.out _ _ WB.out HKK.out).mono ?_
                rintro e wd ⟨rfl, hb⟩
                have WD := Lib.hid (WB.out.grow H hb)
                clear hb WB
                go_wp2_with fail
                exact ⟨⟨k + 1, by omega, by rw [ek], T', d', WD.out⟩, by rw [ek]; simp [intOf]; omega⟩
            · have da : decide (arm ≥ 0) = false := by simpa using harm
              have db : decide (arm < 0) = true := by simp; omega
              have hdn := (WJ.out.cnt.2 (by omega)).2
              go_wp2_with fail
              refine (H.down T' _ g d' WJ.out.st.at' (WJ.out.ok.mono HKK.out)).mono ?_
              rintro e wb ⟨rfl, hb⟩
              have WB := Lib.hid (WJ.out.grow H hb)
              clear hb WJ
              rw [hdn]
              go_wp2_with fail
              exact ⟨⟨k + 1, by omega, by rw [ek], T', d', WB.out⟩, by rw [ek]; simp [intOf]; omega⟩
    · have hd : decide ((k : Int) < (n : Int)) = false := by simp; omega
      have HKK := Lib.hid (show (k : Int) ≤ 1000 by have := HNN.out.2; omega)
      go_wp2_with fail
      refine (H.crash T wr g d _ [] (-1) 0 W.out.st.at' (W.out.ok.mono HKK.out) (.inl ⟨rfl, rfl⟩) (fun a n c e => by cases e; exact Nat.le_refl _) (by simp) (fun _ k e => by cases e) (by unfold rngI; omega) (by unfold rngI; omega)).mono ?_
      rintro e wa ⟨T2, rfl, ha, ht⟩
      have SA : Hid (St At w wa T2 g (crashD d [] (-1) 0) ∧ OkD (crashD d [] (-1) 0) 1000) := ⟨W.out.st.step ht ha, (W.out.ok.mono HKK.out).crash (by omega) _ _ _⟩
      have e0 : readsD (crashD d [] (-1) 0) 0 = 0 := by
        unfold readsD
        split
        · show (List.replicate d.reads.length (0 : Int)).getD 0 0 = 0
          rw [List.getD_eq_getElem?_getD, List.getElem?_replicate]
          split <;> rfl
        · rfl
      have e9 : readsD (crashD d [] (-1) 0) 9 = 0 := by
        unfold readsD hasD
        rw [show (crashD d [] (-1) 0).sectors = 4 from W.out.four.1]
        rfl
      have ed : (crashD d [] (-1) 0).down = false := rfl
      generalize crashD d [] (-1) 0 = dc at *
      clear ha ht W
      go_wp2_with fail
      refine (H.reads T2 wa g dc 0 SA.out.1.at' SA.out.2 (by unfold rngI; omega)).mono ?_
      rintro e wb ⟨rfl, hb⟩
      have SB : Hid (St At w wb T2 g dc ∧ OkD dc 1000) := ⟨SA.out.1.grow H hb, SA.out.2⟩
      clear hb SA
      rw [e0]
      go_wp2_with fail
      refine (H.reads T2 wb g dc 9 SB.out.1.at' SB.out.2 (by unfold rngI; omega)).mono ?_
      rintro e wd ⟨rfl, hb⟩
      have SC : Hid (St At w wd T2 g dc ∧ OkD dc 1000) := ⟨SB.out.1.grow H hb, SB.out.2⟩
      clear hb SB
      rw [e9]
      go_wp2_with fail
      refine (H.down T2 wd g dc SC.out.1.at' SC.out.2).mono ?_
      rintro e we ⟨rfl, hb⟩
      have SD : Hid (St At w we T2 g dc) := SC.out.1.grow H hb
      clear hb SC
      rw [ed]
      go_wp2_with fail
      refine (HA we).mono ?_
      rintro e wf ⟨rfl, hb⟩
      have HB9 : Hid (Below w.heap.size w wf) := SD.out.below.trans (hb.mono SD.out.below.size)
      clear hb SD
      go_wp2_with fail
      go_ret
      exact ⟨rfl, HB9.out⟩
end Go.Proofs.Ytohmkmekdnfkoaa
