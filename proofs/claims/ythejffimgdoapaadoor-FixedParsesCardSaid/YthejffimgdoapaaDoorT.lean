/- The laws of P1.3, as contracts: each returns true, for every input. -/
import Derived.Test.YthejffimgdoapaaDoorR
import Derived.Test.YthejffimgdoapaaDoorD
namespace Go.Proofs.YthejffimgdoapaaDoor
open Go.RowKit

theorem textT_len (a : Int) (h : inB a = true) : (textT a).length ≤ 4294967280 := by
  have := inB_iff.1 h
  unfold textT
  split
  · have h1 := itoa_len (-a / 256) (by omega) (by omega)
    have h2 := partT_len (-a % 256) (by omega) (by omega)
    rw [List.length_cons, List.length_append]; omega
  · have h1 := itoa_len (a / 256) (by omega) (by omega)
    have h2 := partT_len (a % 256) (by omega) (by omega)
    rw [List.length_append]; omega
set_option maxHeartbeats 1000000 in
theorem texts_in (a : Int) (h : inB a = true) (w : World) (hr : Rd2 w) :
    Calls Tryd.prog 6 #[.int .i64 a] w fun e w' => e = .returned (.bool true) ∧ Below w.heap.size w w' := by
  have Hr := Lib.hid hr; have H := Lib.hid h
  have HL : Hid ((textT a).length ≤ 4294967280) := textT_len a h
  have HF : Hid (readF (textT a) = some a) := read_text a h
  clear hr h
  have HT : Hid (∀ w, Rd2 w → Calls Tryd.prog 22 #[.int .i64 a] w fun e w' => e = .returned (.string ⟨(textT a).toArray⟩) ∧ Below w.heap.size w w') := fun w hr => text_in a w H.out hr.rd
  have HX : Hid (∀ w, Calls Tryd.prog 24 #[.int .i64 a] w fun e w' => e = .returned (.string ⟨(textT a).toArray⟩) ∧ Below w.heap.size w w') := fun w => refText_in a H.out w
  generalize textT a = t at *
  go_enter Tryd.func6, Tryd.ntmps6
  go_wp2_with (first | (go_at_call 22; refine (HT.out _ Hr.out).mono ?_; rintro e w1 ⟨rfl, hb1⟩; have Hb1 := Lib.hid hb1; clear hb1) | (go_at_call 11; refine (refIn_any _ _).mono ?_; rintro e w' ⟨rfl, rfl⟩; rw [H.out]) | (go_at_call 23; refine (parse_same _ HL.out a HF.out _ (Hr.out.on Hb1.out) HT.out).mono ?_; rintro e w2 ⟨rfl, hb2⟩; unfold two; have Hb2 := Lib.hid hb2; clear hb2) | (go_at_call 24; refine (HX.out _).mono ?_; rintro e w3 ⟨rfl, hb3⟩; have Hb3 := Lib.hid hb3; clear hb3) | (go_at_call 12; refine (awake_any _ (((Hr.out.on Hb1.out).on Hb2.out).on Hb3.out).rd).mono ?_; rintro e w4 ⟨rfl, hb4⟩; have Hb4 := Lib.hid hb4; clear hb4))
  go_ret
  exact ⟨rfl, below_next (below_next (below_next Hb1.out Hb2.out) Hb3.out) Hb4.out⟩
set_option maxHeartbeats 1000000 in
theorem texts_out (a : Int) (h : inB a = false) (w : World) (hr : Rd2 w) :
    Calls Tryd.prog 6 #[.int .i64 a] w fun e w' => e = .returned (.bool true) ∧ Below w.heap.size w w' := by
  have Hr := Lib.hid hr; have H := Lib.hid h
  clear hr h
  go_enter Tryd.func6, Tryd.ntmps6
  go_wp2_with (first | (go_at_call 22; refine (text_out _ _ H.out).mono ?_; rintro e w' ⟨rfl, rfl⟩) | (go_at_call 11; refine (refIn_any _ _).mono ?_; rintro e w' ⟨rfl, rfl⟩; rw [H.out]) | (go_at_call 13; refine (in_any _ _).mono ?_; rintro e w' ⟨rfl, rfl⟩; rw [H.out]) | (go_at_call 12; refine (awake_any _ Hr.out.rd).mono ?_; rintro e w4 ⟨rfl, hb4⟩; have Hb4 := Lib.hid hb4; clear hb4))
  go_ret
  exact ⟨rfl, Hb4.out⟩
theorem texts_law (a : Int) (_h0 : -9223372036854775808 ≤ a) (_h1 : a ≤ 9223372036854775807) (w : World) (hr : Rd2 w) :
    Calls Tryd.prog 6 #[.int .i64 a] w fun e w' => e = .returned (.bool true) ∧ Below w.heap.size w w' := by
  cases h : inB a
  · exact texts_out a h w hr
  · exact texts_in a h w hr

set_option maxHeartbeats 1000000 in
theorem parses_long (l : List UInt8) (h : 200 < l.length) (w : World) (hr : Rd2 w) :
    Calls Tryd.prog 7 #[.string ⟨l.toArray⟩] w fun e w' => e = .returned (.bool true) ∧ Below w.heap.size w w' := by
  have h1 : (200 : Int) < (l.length : Int) := by omega
  have Hr := Lib.hid hr
  clear hr h
  go_enter Tryd.func7, Tryd.ntmps7
  go_wp2_with (go_at_call 12; refine (awake_any _ Hr.out.rd).mono ?_; rintro e w4 ⟨rfl, hb4⟩; have Hb4 := Lib.hid hb4; clear hb4)
  go_ret
  exact ⟨rfl, Hb4.out⟩
set_option maxHeartbeats 1000000 in
/-- Refused. -/
theorem parses_no (l : List UInt8) (h : l.length ≤ 200) (w : World) (hr : Rd2 w)
    (hp : Calls Tryd.prog 23 #[.string ⟨l.toArray⟩] w fun e w' => e = two 0 20 ∧ Below w.heap.size w w') :
    Calls Tryd.prog 7 #[.string ⟨l.toArray⟩] w fun e w' => e = .returned (.bool true) ∧ Below w.heap.size w w' := by
  have h1 : (l.length : Int) ≤ 200 := by omega
  have Hr := Lib.hid hr; have HP := Lib.hid hp
  clear hr h hp
  go_enter Tryd.func7, Tryd.ntmps7
  go_wp2_with (first | (go_at_call 23; refine HP.out.mono ?_; rintro e w1 ⟨rfl, hb1⟩; unfold two; have Hb1 := Lib.hid hb1; clear hb1) | (go_at_call 12; refine (awake_any _ (Hr.out.on Hb1.out).rd).mono ?_; rintro e w4 ⟨rfl, hb4⟩; have Hb4 := Lib.hid hb4; clear hb4))
  go_ret
  exact ⟨rfl, below_next Hb1.out Hb4.out⟩
set_option maxHeartbeats 1000000 in
/-- Read: its own text. -/
theorem parses_yes (l : List UInt8) (h : l.length ≤ 200) (a : Int) (ha : inB a = true) (w : World) (hr : Rd2 w)
    (hp : Calls Tryd.prog 23 #[.string ⟨l.toArray⟩] w fun e w' => e = two a 0 ∧ Below w.heap.size w w')
    (hx : ∀ w, Calls Tryd.prog 24 #[.int .i64 a] w fun e w' => e = .returned (.string ⟨l.toArray⟩) ∧ Below w.heap.size w w') :
    Calls Tryd.prog 7 #[.string ⟨l.toArray⟩] w fun e w' => e = .returned (.bool true) ∧ Below w.heap.size w w' := by
  have h1 : (l.length : Int) ≤ 200 := by omega
  have Hr := Lib.hid hr; have HP := Lib.hid hp; have HX := Lib.hid hx; have H := Lib.hid ha
  clear hr h hp hx ha
  go_enter Tryd.func7, Tryd.ntmps7
  go_wp2_with (first | (go_at_call 23; refine HP.out.mono ?_; rintro e w1 ⟨rfl, hb1⟩; unfold two; have Hb1 := Lib.hid hb1; clear hb1) | (go_at_call 11; refine (refIn_any _ _).mono ?_; rintro e w' ⟨rfl, rfl⟩; rw [H.out]) | (go_at_call 24; refine (HX.out _).mono ?_; rintro e w3 ⟨rfl, hb3⟩; have Hb3 := Lib.hid hb3; clear hb3) | (go_at_call 12; refine (awake_any _ ((Hr.out.on Hb1.out).on Hb3.out).rd).mono ?_; rintro e w4 ⟨rfl, hb4⟩; have Hb4 := Lib.hid hb4; clear hb4))
  go_ret
  exact ⟨rfl, below_next (below_next Hb1.out Hb3.out) Hb4.out⟩
theorem parses_list (l : List UInt8) (w : World) (hr : Rd2 w) :
    Calls Tryd.prog 7 #[.string ⟨l.toArray⟩] w fun e w' => e = .returned (.bool true) ∧ Below w.heap.size w w' := by
  by_cases h : 200 < l.length
  · exact parses_long l h w hr
  · have hl : l.length ≤ 200 := by omega
    cases hf : readF l with
    | none => exact parses_no l hl w hr (parse_none l (by omega) hf w hr)
    | some a =>
      cases ha : inB a
      · refine parses_no l hl w hr (parse_other l (by omega) a hf [] (fun e => ?_) w hr fun w _ => (text_out a w ha).mono fun _ _ ⟨he, hw⟩ => ⟨he, hw ▸ Below.refl _ _⟩)
        rw [← e, readF_nil] at hf
        cases hf
      · by_cases ht : textT a = l
        · subst ht
          exact parses_yes _ hl a ha w hr (parse_same _ (by omega) a hf w hr fun w hr => text_in a w ha hr.rd) fun w => refText_in a ha w
        · exact parses_no l hl w hr (parse_other l (by omega) a hf (textT a) ht w hr fun w hr => text_in a w ha hr.rd)
theorem parses_law (s : ByteArray) (_hs : s.size ≤ maxLen) (w : World) (hr : Rd2 w) :
    Calls Tryd.prog 7 #[.string s] w fun e w' => e = .returned (.bool true) ∧ Below w.heap.size w w' := by
  obtain ⟨⟨l⟩⟩ := s
  exact parses_list l w hr
end Go.Proofs.YthejffimgdoapaaDoor
