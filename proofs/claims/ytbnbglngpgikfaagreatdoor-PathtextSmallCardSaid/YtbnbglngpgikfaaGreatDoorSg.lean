/- Layer 6: equality of segments; Equal, same. -/
import Derived.Test.YtbnbglngpgikfaaGreatDoorSf
import Derived.Deep.QuietTactic
namespace Go.Proofs.YtbnbglngpgikfaaGreatDoor
open Go.RowKit
set_option maxHeartbeats 1000000 in
theorem equal_p3 (d : Nat) (p q r : Pt) (w : World) : (Op.equalIn (d + 3) 51 (.agg #[.int .i64 p.1, .int .i64 p.2, .int .i64 q.1, .int .i64 q.2, .int .i64 r.1, .int .i64 r.2]) (.agg #[.int .i64 p.1, .int .i64 p.2, .int .i64 q.1, .int .i64 q.2, .int .i64 r.1, .int .i64 r.2])).run Tryz.prog w = .ok true w := by
  have hsz : ∀ w, (sizeOf 50).run Tryz.prog w = .ok 2 w := fun w => by kernel_rfl
  rw [Op.equalIn]
  simp only [Sem.run_bind, run_underlying Tryz.underlying51, Result.andThen_ok, hsz, Std.Legacy.Range.forIn_eq_forIn_range', Std.Legacy.Range.size, Nat.sub_zero, Nat.add_sub_cancel, Nat.div_one]
  have e : List.range' 0 3 1 = [0, 1, 2] := rfl
  rw [e]
  go_simp
set_option maxHeartbeats 1000000 in
theorem equal_r3 (d : Nat) (p q r : Pt) (w : World) : (Op.equalIn (d + 3) 46 (.agg #[.int .i64 p.1, .int .i64 p.2, .int .i64 q.1, .int .i64 q.2, .int .i64 r.1, .int .i64 r.2]) (.agg #[.int .i64 p.1, .int .i64 p.2, .int .i64 q.1, .int .i64 q.2, .int .i64 r.1, .int .i64 r.2])).run Tryz.prog w = .ok true w := by
  have hsz : ∀ w, (sizeOf 45).run Tryz.prog w = .ok 2 w := fun w => by kernel_rfl
  rw [Op.equalIn]
  simp only [Sem.run_bind, run_underlying Tryz.underlying46, Result.andThen_ok, hsz, Std.Legacy.Range.forIn_eq_forIn_range', Std.Legacy.Range.size, Nat.sub_zero, Nat.add_sub_cancel, Nat.div_one]
  have e : List.range' 0 3 1 = [0, 1, 2] := rfl
  rw [e]
  go_simp
set_option maxHeartbeats 1000000 in
theorem equal_sg (k : Int) (p q r : Pt) (w : World) : (Op.equalIn 10000 53 (.agg (seven k p q r)) (.agg (seven k p q r))).run Tryz.prog w = .ok true w := by
  have P3 := fun d w => equal_p3 d p q r w
  have e : (k == k) = true := by simp
  go_simp
set_option maxHeartbeats 1000000 in
theorem equal_sr (k : Int) (p q r : Pt) (w : World) : (Op.equalIn 10000 48 (.agg (seven k p q r)) (.agg (seven k p q r))).run Tryz.prog w = .ok true w := by
  have P3 := fun d w => equal_r3 d p q r w
  have e : (k == k) = true := by simp
  go_simp
set_option maxHeartbeats 1000000 in
theorem sleq_len (ao bo : Option Addr) (m n c d : Nat) (hmn : m ≠ n) (w : World) : Calls Tryz.prog 29 #[.slice ao m c, .slice bo n d] w fun e w' => e = .returned (.bool false) ∧ Below w.heap.size w w' := by
  have h : ((m : Int) != (n : Int)) = true := by simp; omega
  clear hmn
  go_enter Tryz.func29, Tryz.ntmps29
  go_wp2_with fail
  go_ret
  exact ⟨rfl, Below.refl _ _⟩
set_option maxHeartbeats 1000000 in
set_option maxRecDepth 100000 in
theorem sleq_empty (ao bo : Option Addr) (c d : Nat) (w : World) : Calls Tryz.prog 29 #[.slice ao 0 c, .slice bo 0 d] w fun e w' => e = .returned (.bool true) ∧ Below w.heap.size w w' := by
  go_enter Tryz.func29, Tryz.ntmps29
  go_wp2_with fail
  go_loopw [13] (fun i wr => i = .int .i64 0 ∧ Hid (wr = w)) (fun _ _ => 0)
  case atStart => exact ⟨rfl, rfl⟩
  case round =>
    obtain ⟨rfl, hw⟩ := hrel
    go_wp2_with fail
    go_ret
    exact ⟨rfl, by rw [hw.out]; exact Below.refl _ _⟩
set_option maxHeartbeats 2000000 in
set_option maxRecDepth 100000 in
theorem sleq_some (w : World) (b o c b2 o2 c2 n : Nat) (l : List Sg) (hn : l.length = n) (hl : n ≤ 5000) (hb : b < w.heap.size) (hp : SegsAt w b o l) (hb2 : b2 < w.heap.size) (hp2 : SegsAt w b2 o2 l) :
    Calls Tryz.prog 29 #[.slice (some ⟨b, o, none⟩) n c, .slice (some ⟨b2, o2, none⟩) n c2] w fun e w' => e = .returned (.bool true) ∧ Below w.heap.size w w' := by
  have HP := Lib.hid hp
  have HB := Lib.hid hb
  have HP2 := Lib.hid hp2
  have HB2 := Lib.hid hb2
  have HN := Lib.hid hn
  have e0 : ((n : Int) != (n : Int)) = false := by simp
  clear hp hb hp2 hb2 hn
  go_enter Tryz.func29, Tryz.ntmps29
  go_wp2_with fail
  go_loopw [13] (fun i wr => ∃ k : Nat, k ≤ n ∧ i = .int .i64 k ∧ Hid (Below w.heap.size w wr)) (fun i _ => n - (intOf i).toNat)
  case atStart => exact ⟨0, by omega, rfl, Below.refl _ _⟩
  case round =>
    obtain ⟨k, hk, rfl, hw⟩ := hrel
    by_cases hlt : k < n
    · have hd : decide ((k : Int) < (n : Int)) = true := by simp; omega
      obtain ⟨s, hp⟩ : ∃ p, l[k]? = some p := ⟨_, List.getElem?_eq_getElem (by rw [HN.out]; exact hlt)⟩
      have s1 := HP.out.on hw.out HB.out
      have s2 := HP2.out.on hw.out HB2.out
      have c0 := (s1).c0 hp
      have c1 := (s1).c1 hp
      have c2 := (s1).c2 hp
      have c3 := (s1).c3 hp
      have c4 := (s1).c4 hp
      have c5 := (s1).c5 hp
      have c6 := (s1).c6 hp
      have d0 := (s2).c0 hp
      have d1 := (s2).c1 hp
      have d2 := (s2).c2 hp
      have d3 := (s2).c3 hp
      have d4 := (s2).c4 hp
      have d5 := (s2).c5 hp
      have d6 := (s2).c6 hp
      have EQ := equal_sg s.k s.p s.q s.r
      clear hp s1 s2
      go_wp2_with fail
      go_quiet (fail)
      go_wp2_with fail
      exact ⟨⟨k + 1, by omega, by go_num, below_drewN hw.out _⟩, by simp [intOf]; omega⟩
    · have hd : decide ((k : Int) < (n : Int)) = false := by simp; omega
      go_wp2_with fail
      go_ret
      exact ⟨rfl, hw.out⟩
theorem sleq_c (s u : Value) (l : List Sg) (w : World) (hl : l.length ≤ 5000) (h : RowS w s l) (k : RowS w u l) : Calls Tryz.prog 29 #[s, u] w fun e w' => e = .returned (.bool true) ∧ Below w.heap.size w w' := by
  obtain ⟨ao, c, rfl⟩ := h.shape
  obtain ⟨bo, d, rfl⟩ := k.shape
  by_cases h0 : l.length = 0
  · rw [h0]; exact sleq_empty ao bo c d w
  · obtain ⟨b, o, rfl, h1, h2⟩ := h.addr (k := 0) (by omega)
    obtain ⟨b2, o2, rfl, h3, h4⟩ := k.addr (k := 0) (by omega)
    exact sleq_some w b o c b2 o2 d l.length l rfl hl h1 h2 h3 h4
theorem equal_walk (ao bo : Option Addr) (m n c d : Nat) (r : Bool) (w : World) (H : Hid (Calls Tryz.prog 29 #[.slice ao m c, .slice bo n d] w fun e w' => e = .returned (.bool r) ∧ Below w.heap.size w w')) :
    Calls Tryz.prog 15 #[.slice ao m c, .slice bo n d] w fun e w' => e = .returned (.bool r) ∧ Below w.heap.size w w' := by
  go_enter Tryz.func15, Tryz.ntmps15
  go_wp2_with fail
  refine H.out.mono ?_
  rintro e w1 ⟨rfl, hb⟩
  go_wp2_with fail
  go_ret
  exact ⟨rfl, hb⟩
theorem equal_c (s u : Value) (l : List Sg) (w : World) (hl : l.length ≤ 5000) (h : RowS w s l) (k : RowS w u l) : Calls Tryz.prog 15 #[s, u] w fun e w' => e = .returned (.bool true) ∧ Below w.heap.size w w' := by
  have H := sleq_c s u l w hl h k
  obtain ⟨ao, c, rfl⟩ := h.shape
  obtain ⟨bo, d, rfl⟩ := k.shape
  exact equal_walk ao bo _ _ c d true w H
theorem equal_not (s u : Value) (l m : List Sg) (w : World) (hl : l.length ≠ m.length) (h : RowS w s l) (k : RowS w u m) : Calls Tryz.prog 15 #[s, u] w fun e w' => e = .returned (.bool false) ∧ Below w.heap.size w w' := by
  obtain ⟨ao, c, rfl⟩ := h.shape
  obtain ⟨bo, d, rfl⟩ := k.shape
  exact equal_walk ao bo _ _ c d false w (sleq_len ao bo _ _ c d hl w)
set_option maxHeartbeats 2000000 in
set_option maxRecDepth 100000 in
theorem same_empty (v : Value) (bo : Option Addr) (d : Nat) (w : World) (HR : Hid (∀ w, Calls Tryz.prog 11 #[v] w fun e w' => ∃ u, e = .returned u ∧ OwnS w' w.heap.size 48 u [] ∧ Below w.heap.size w w')) : Calls Tryz.prog 17 #[v, .slice bo 0 d] w fun e w' => e = .returned (.bool true) ∧ Below w.heap.size w w' := by
  go_enter Tryz.func17, Tryz.ntmps17
  go_wp2_with fail
  refine (HR.out _).mono ?_
  rintro e w1 ⟨u, rfl, ho, hb⟩
  obtain ⟨ao, c, rfl⟩ := ho.row.shape
  have B1 := Lib.hid hb
  clear ho hb
  simp only [List.length_nil]
  go_wp2_with fail
  go_loopw [16] (fun i wr => i = .int .i64 0 ∧ Hid (Below w.heap.size w wr)) (fun _ _ => 0)
  case atStart => exact ⟨rfl, B1⟩
  case round =>
    obtain ⟨rfl, hw⟩ := hrel
    go_wp2_with fail
    go_ret
    exact ⟨rfl, hw.out⟩
set_option maxHeartbeats 2000000 in
set_option maxRecDepth 100000 in
theorem same_some (v : Value) (w : World) (b2 o2 c2 n : Nat) (l : List Sg) (hn : l.length = n) (hl : n ≤ 5000) (h0 : 0 < n) (hb2 : b2 < w.heap.size) (hp2 : SegsAt w b2 o2 l)
    (HR : Hid (∀ w', Below w.heap.size w w' → Calls Tryz.prog 11 #[v] w' fun e w'' => ∃ u, e = .returned u ∧ OwnS w'' w'.heap.size 48 u l ∧ Below w'.heap.size w' w'')) :
    Calls Tryz.prog 17 #[v, .slice (some ⟨b2, o2, none⟩) n c2] w fun e w' => e = .returned (.bool true) ∧ Below w.heap.size w w' := by
  have HP2 := Lib.hid hp2
  have HB2 := Lib.hid hb2
  have HN := Lib.hid hn
  have H0 := Lib.hid h0
  have e0 : ((n : Int) != (n : Int)) = false := by simp
  clear hp2 hb2 hn h0
  go_enter Tryz.func17, Tryz.ntmps17
  go_wp2_with fail
  refine (HR.out _ (Below.refl _ _)).mono ?_
  rintro e w1 ⟨u, rfl, ho, hb⟩
  obtain ⟨ao, c, rfl⟩ := ho.row.shape
  have hh := ho.row
  rw [HN.out] at hh ⊢
  obtain ⟨b, o, rfl, h1, h2⟩ := hh.addr (k := 0) (by rw [HN.out]; exact H0.out)
  have HB := Lib.hid h1
  have HP := Lib.hid h2
  have B1 := Lib.hid hb
  clear ho hb hh h1 h2
  go_wp2_with fail
  go_loopw [16] (fun i wr => ∃ k : Nat, k ≤ n ∧ i = .int .i64 k ∧ Hid (Below w1.heap.size w1 wr)) (fun i _ => n - (intOf i).toNat)
  case atStart => exact ⟨0, by omega, rfl, Below.refl _ _⟩
  case round =>
    obtain ⟨k, hk, rfl, hw⟩ := hrel
    by_cases hlt : k < n
    · have hd : decide ((k : Int) < (n : Int)) = true := by simp; omega
      obtain ⟨s, hp⟩ : ∃ p, l[k]? = some p := ⟨_, List.getElem?_eq_getElem (by rw [HN.out]; exact hlt)⟩
      have s1 := HP.out.on hw.out HB.out
      have s2 := HP2.out.on (below_next B1.out hw.out) HB2.out
      have c0 := (s1).c0 hp
      have c1 := (s1).c1 hp
      have c2 := (s1).c2 hp
      have c3 := (s1).c3 hp
      have c4 := (s1).c4 hp
      have c5 := (s1).c5 hp
      have c6 := (s1).c6 hp
      have d0 := (s2).c0 hp
      have d1 := (s2).c1 hp
      have d2 := (s2).c2 hp
      have d3 := (s2).c3 hp
      have d4 := (s2).c4 hp
      have d5 := (s2).c5 hp
      have d6 := (s2).c6 hp
      have EQ := equal_sr s.k s.p s.q s.r
      clear hp s1 s2
      go_wp2_with fail
      go_quiet (fail)
      go_wp2_with fail
      exact ⟨⟨k + 1, by omega, by go_num, below_drewN hw.out _⟩, by simp [intOf]; omega⟩
    · have hd : decide ((k : Int) < (n : Int)) = false := by simp; omega
      go_wp2_with fail
      go_ret
      exact ⟨rfl, below_next B1.out hw.out⟩
theorem same_c (s u : Value) (l : List Sg) (w : World) (hl : l.length ≤ 5000) (h : RowS w s l) (k : RowS w u l) : Calls Tryz.prog 17 #[s, u] w fun e w' => e = .returned (.bool true) ∧ Below w.heap.size w w' := by
  obtain ⟨bo, d, rfl⟩ := k.shape
  by_cases h0 : l.length = 0
  · obtain rfl : l = [] := List.eq_nil_of_length_eq_zero h0
    refine same_empty s bo d w (fun w' => ref_c w' s [] (by simp) ?_)
    rcases h with h | h | ⟨_, _, c, rfl, _, _⟩
    · exact .inl h
    · exact .inr (.inl h)
    · exact .inr (.inl ⟨_, c, rfl, rfl⟩)
  · obtain ⟨b2, o2, rfl, h3, h4⟩ := k.addr (k := 0) (by omega)
    exact same_some s w b2 o2 d l.length l rfl hl (by omega) h3 h4 (fun w' hb => ref_c w' s l hl (h.on hb))
end Go.Proofs.YtbnbglngpgikfaaGreatDoor

