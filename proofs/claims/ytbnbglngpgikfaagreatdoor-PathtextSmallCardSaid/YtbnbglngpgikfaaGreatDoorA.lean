/- What every text of this seat stands on: what calls leave of older memory, rows of points, blocks at hand, rules for drawn regions. -/
import Derived.Test.YtbnbglngpgikfaaGreatDoorRows
import Derived.WalkKit
import Derived.WalkSpells
import Derived.WalkLawsBesides
import Derived.Lib.Hide
import Derived.Laws.Rows
import Derived.Laws.CopyOwn
import Derived.Laws.Tables
import Derived.Deep.WholeRow
import Derived.Handy
import Derived.Lib.SmallJoins
import Derived.BigQuiet
import Derived.Deep.RegionHeld3
import Derived.Deep.CutBlock
import Derived.Deep.DeepCutAuto
import Derived.Laws.Externs
import Derived.OrdersHeld
import Derived.Lib.MinMax
import Derived.OwnWalk
import Derived.Laws.AppendOwn
namespace Go.Proofs.YtbnbglngpgikfaaGreatDoor
open Go.RowKit

theorem below_next {a b c : World} (h : Below a.heap.size a b) (k : Below b.heap.size b c) : Below a.heap.size a c := h.trans (k.mono h.size)
section
variable {C : World → Prop} {ops : Array Oper} {Q : Act → Prop} {a : Act} {o : Oper} {rest : List Oper} {K : Act → Prop}
theorem quiet_val (v : Value) (hv : ∀ w, C w → (execOp a.eval o).run Tryz.prog w = .ok (.value v) w) (hk : K (a.put o.dst v)) : o.quiet Tryz.prog a C K :=
  ⟨v, fun w hw => by unfold Oper.quietAt; rw [hv w hw]; exact ⟨rfl, rfl⟩, hk⟩
theorem quiet_call (f : FuncId) (args : Array Value) (v : Value) (hv : ∀ w, C w → (execOp a.eval o).run Tryz.prog w = .ok (.enter f args) w)
    (hc : ∀ w, C w → Calls Tryz.prog f args w fun e w' => e = .returned v ∧ C w') (hk : K (a.put o.dst v)) : o.quiet Tryz.prog a C K :=
  ⟨v, fun w hw => by unfold Oper.quietAt; rw [hv w hw]; exact ⟨rfl, hc w hw⟩, hk⟩
end
/-- The class: what has grown out of w0. -/
def Out (w0 : World) (w : World) : Prop := Below w0.heap.size w0 w
theorem Out.next {w0 w w' : World} (h : Out w0 w) (k : Below w.heap.size w w') : Out w0 w' := below_next h k
theorem Calls.out {w0 w : World} {f : FuncId} {args : Array Value} {v : Value} (h : Out w0 w) (hc : Calls Tryz.prog f args w fun e w' => e = .returned v ∧ Below w.heap.size w w') : Calls Tryz.prog f args w fun e w' => e = .returned v ∧ Out w0 w' :=
  hc.mono fun _ _ ⟨he, hb⟩ => ⟨he, h.next hb⟩
/-- A coordinate in room. -/
def room (x : Int) : Bool := decide (-2147483648 ≤ x) && decide (x ≤ 2147483648)
theorem room_iff {x : Int} : room x = true ↔ -2147483648 ≤ x ∧ x ≤ 2147483648 := by simp [room]
def roomP (p : Int × Int) : Bool := room p.1 && room p.2
theorem fixedIn_c (x : Int) (w : World) : Calls Tryz.prog 38 #[.int .i64 x] w fun e w' => e = .returned (.bool (room x)) ∧ w = w' := by
  by_cases h : -2147483648 ≤ x
  · go_enter Tryz.func38, Tryz.ntmps38
    go_wp2
    go_ret
    exact ⟨by simp [room, h], rfl⟩
  · go_enter Tryz.func38, Tryz.ntmps38
    go_wp2
    go_ret
    exact ⟨by simp [room]; omega, rfl⟩
theorem refIn_c (x : Int) (w : World) : Calls Tryz.prog 25 #[.int .i64 x] w fun e w' => e = .returned (.bool (room x)) ∧ w = w' := by
  by_cases h : -2147483648 ≤ x
  · go_enter Tryz.func25, Tryz.ntmps25
    go_wp2
    go_ret
    exact ⟨by simp [room, h], rfl⟩
  · go_enter Tryz.func25, Tryz.ntmps25
    go_wp2
    go_ret
    exact ⟨by simp [room]; omega, rfl⟩
theorem ptIn_c (x y : Int) (w : World) : Calls Tryz.prog 52 #[.agg #[.int .i64 x, .int .i64 y]] w fun e w' => e = .returned (.bool (room x && room y)) ∧ Below w.heap.size w w' := by
  have HX := Lib.hid (fixedIn_c x)
  have HY := Lib.hid (fixedIn_c y)
  cases hx : room x
  · rw [hx] at HX
    go_enter Tryz.func52, Tryz.ntmps52
    go_wp2_with fail
    refine (HX.out _).mono ?_
    rintro e w' ⟨rfl, rfl⟩
    go_wp2_with fail
    go_ret
    exact ⟨rfl, by go_grown⟩
  · rw [hx] at HX
    go_enter Tryz.func52, Tryz.ntmps52
    go_wp2_with fail
    refine (HX.out _).mono ?_
    rintro e w' ⟨rfl, rfl⟩
    go_wp2_with fail
    refine (HY.out _).mono ?_
    rintro e w' ⟨rfl, rfl⟩
    go_wp2_with fail
    go_ret
    exact ⟨by simp, by go_grown⟩
/-- A row of points at hand in memory, from an address on. -/
def PtsAt (w : World) (b o : Nat) (l : List (Int × Int)) : Prop := ∀ i p, l[i]? = some p → w.cell? ⟨b, o + i * 2, none⟩ = some (.int .i64 p.1) ∧ w.cell? ⟨b, o + i * 2 + 1, none⟩ = some (.int .i64 p.2)
/-- A slice of points: its value, the points, the world. -/
def Row (w : World) (s : Value) (l : List (Int × Int)) : Prop :=
  (s = .slice none 0 0 ∧ l = []) ∨ (∃ a c, s = .slice (some a) 0 c ∧ l = []) ∨ ∃ b o c, s = .slice (some ⟨b, o, none⟩) l.length c ∧ b < w.heap.size ∧ PtsAt w b o l
theorem cell_below {w w' : World} {B b o : Nat} (h : Below B w w') (hb : b < B) : w'.cell? ⟨b, o, none⟩ = w.cell? ⟨b, o, none⟩ := by
  unfold World.cell?; simp only; rw [h.block b hb]
theorem PtsAt.on {w w' : World} {b o : Nat} {l : List (Int × Int)} (h : PtsAt w b o l) {B : Nat} (hb : Below B w w') (hlt : b < B) : PtsAt w' b o l := fun i p hp => by
  rw [cell_below hb hlt, cell_below hb hlt]; exact h i p hp
theorem Row.on {w w' : World} {s : Value} {l : List (Int × Int)} (h : Row w s l) (hb : Below w.heap.size w w') : Row w' s l := by
  rcases h with h | h | ⟨b, o, c, h1, h2, h3⟩
  · exact .inl h
  · exact .inr (.inl h)
  · exact .inr (.inr ⟨b, o, c, h1, Nat.lt_of_lt_of_le h2 hb.size, h3.on hb h2⟩)
abbrev Pt := Int × Int
theorem take_fold {α β : Type} (f : β → α → β) (l : List α) (k : Nat) (q : α) (h : l[k]? = some q) (st : β) : (l.take (k + 1)).foldl f st = f ((l.take k).foldl f st) q := by
  rw [List.take_add_one, h]; simp
theorem count_lt {l : List Nat} {p q : Nat → Bool} (hpq : ∀ j, q j = true → p j = true) {i : Nat} (hi : i ∈ l) (hp : p i = true) (hq : q i = false) : (l.filter q).length < (l.filter p).length := by
  have hle : ∀ l : List Nat, (l.filter q).length ≤ (l.filter p).length := by
    intro l
    induction l with
    | nil => simp
    | cons x l ih =>
      cases hx : q x
      · rw [List.filter_cons_of_neg (by simp [hx])]
        cases hy : p x
        · rw [List.filter_cons_of_neg (by simp [hy])]; exact ih
        · rw [List.filter_cons_of_pos hy]; simp; omega
      · rw [List.filter_cons_of_pos hx, List.filter_cons_of_pos (hpq x hx)]; simp; omega
  induction l with
  | nil => cases hi
  | cons x l ih =>
    rcases List.mem_cons.1 hi with rfl | hm
    · rw [List.filter_cons_of_neg (by simp [hq]), List.filter_cons_of_pos hp]
      have := hle l
      simp; omega
    · have := ih hm
      cases hx : q x
      · rw [List.filter_cons_of_neg (by simp [hx])]
        cases hy : p x
        · rw [List.filter_cons_of_neg (by simp [hy])]; exact this
        · rw [List.filter_cons_of_pos hy]; simp; omega
      · rw [List.filter_cons_of_pos hx, List.filter_cons_of_pos (hpq x hx)]; simp; omega
theorem wpAny_inv {P : Program} {md : Region.Mode} {ops : Array Oper} {Q : Exit → Act → World → Prop} (Inv : Array Bool → Act → World → Prop)
    (hstep : ∀ listed a w i, Inv listed a w → i ∈ Region.ready md ops listed → wpOp P ops Q i (Inv (listed.setIfInBounds i true)) a w)
    (hend : ∀ listed a w, Inv listed a w → Region.ready md ops listed = [] → Q .normal a w) :
    ∀ (fuel : Nat) (listed : Array Bool) (a : Act) (w : World), ((List.range ops.size).filter fun i => !listed.getD i true).length ≤ fuel → Inv listed a w → wpAny P md ops Q fuel listed a w
  | 0, listed, a, w, hf, h => by
    have hr : Region.ready md ops listed = [] := by
      apply List.eq_nil_iff_forall_not_mem.2
      intro i hi
      unfold Region.ready at hi
      have h1 := List.mem_filter.1 hi
      have h2 : i ∈ (List.range ops.size).filter fun i => !listed.getD i true := List.mem_filter.2 ⟨h1.1, (Bool.and_eq_true _ _ ▸ h1.2).1⟩
      have h3 := List.length_pos_of_mem h2
      omega
    exact ⟨hr, hend listed a w h hr⟩
  | fuel + 1, listed, a, w, hf, h => by
    refine ⟨hend listed a w h, fun i hi => wpOp_mono (fun a' w' h' => wpAny_inv Inv hstep hend fuel _ a' w' ?_ h') (hstep listed a w i h hi)⟩
    unfold Region.ready at hi
    have h1 := List.mem_filter.1 hi
    have h2 : (!listed.getD i true) = true := (Bool.and_eq_true _ _ ▸ h1.2).1
    have hlt : i < listed.size := by
      rcases Nat.lt_or_ge i listed.size with h' | h'
      · exact h'
      · simp [Array.getElem?_eq_none h'] at h2
    have := count_lt (l := List.range ops.size) (p := fun i => !listed.getD i true) (q := fun j => !(listed.setIfInBounds i true).getD j true) (fun j hj => by
      by_cases e : i = j
      · subst e; simp [hlt] at hj
      · simp only [Array.getD_eq_getD_getElem?, Array.getElem?_setIfInBounds_ne e] at hj ⊢; exact hj) h1.1 h2 (by simp [hlt])
    omega
/-- The beginning. -/
theorem wp_region_inv {P : Program} {ops : Array Oper} {Q : Exit → Act → World → Prop} {id : Nat} {a : Act} {w : World} (hm : P.follows .mixedOrders = true) (Inv : Array Bool → Act → World → Prop)
    (h0 : Inv (Array.replicate ops.size false) a w.drew)
    (hstep : ∀ listed a w i, Inv listed a w → i ∈ Region.ready .any ops listed → wpOp P ops Q i (Inv (listed.setIfInBounds i true)) a w)
    (hend : ∀ listed a w, Inv listed a w → Region.ready .any ops listed = [] → Q .normal a w) : (Code.region id ops true).wp P Q a w := by
  refine wp_region_any hm (wpAny_inv Inv hstep hend _ _ _ _ ?_ h0)
  exact Nat.le_trans (List.length_filter_le _ _) (by simp)
/-- What the operations have yielded, put into the frame. -/
def putAll : List Oper → Nat → (Nat → Value) → Act → Act
  | [], _, _, a => a
  | o :: l, k, vs, a => putAll l (k + 1) vs (a.put o.dst (vs k))
def upd {α : Type} (f : Nat → α) (i : Nat) (v : α) : Nat → α := fun j => if j = i then v else f j
theorem upd_same {α : Type} (f : Nat → α) (i : Nat) (v : α) : upd f i v i = v := by simp [upd]
theorem upd_other {α : Type} (f : Nat → α) (i j : Nat) (v : α) (h : j ≠ i) : upd f i v j = f j := by simp [upd, h]
/-- Each operation has a slot of its own, in the frame. -/
def slotsOk (n : Nat) : List Oper → Bool
  | [] => true
  | o :: l => (match o.dst with | none => true | some d => decide (d < n) && l.all fun p => decide (p.dst ≠ some d)) && slotsOk n l
theorem putAll_congr : ∀ (l : List Oper) (k : Nat) (vs us : Nat → Value) (a : Act), (∀ j, k ≤ j → vs j = us j) → putAll l k vs a = putAll l k us a
  | [], _, _, _, _, _ => rfl
  | o :: l, k, vs, us, a, h => by
    unfold putAll
    rw [h k (Nat.le_refl _)]
    exact putAll_congr l (k + 1) vs us _ (fun j hj => h j (by omega))
theorem put_swap (a : Act) (d : Tmp) (e : Option Tmp) (v u : Value) (h : e ≠ some d) : (a.put e u).put (some d) v = (a.put (some d) v).put e u := by
  cases e with
  | none => rfl
  | some e =>
    unfold Act.put
    simp only
    rw [Array.setIfInBounds_comm]
    intro h'; exact h (by rw [h'])
theorem putAll_put (d : Tmp) (v : Value) : ∀ (l : List Oper) (k : Nat) (vs : Nat → Value) (a : Act), (l.all fun p => decide (p.dst ≠ some d)) = true → (putAll l k vs a).put (some d) v = putAll l k vs (a.put (some d) v)
  | [], _, _, _, _ => rfl
  | o :: l, k, vs, a, h => by
    simp only [List.all_cons, Bool.and_eq_true, decide_eq_true_eq] at h
    unfold putAll
    rw [putAll_put d v l (k + 1) vs _ (by simpa using h.2), put_swap a d o.dst v (vs k) h.1]
theorem put_put (a : Act) (d : Option Tmp) (v u : Value) : (a.put d u).put d v = a.put d v := by
  cases d with
  | none => rfl
  | some d => unfold Act.put; simp only; congr 1; rw [Array.setIfInBounds_setIfInBounds]
theorem putAll_upd (n : Nat) : ∀ (l : List Oper) (k j : Nat) (o : Oper) (vs : Nat → Value) (a : Act) (v : Value), slotsOk n l = true → l[j]? = some o → putAll l k (upd vs (k + j) v) a = (putAll l k vs a).put o.dst v
  | [], _, _, _, _, _, _, _, h => by cases h
  | p :: l, k, 0, o, vs, a, v, hs, h => by
    obtain rfl : p = o := by simpa using h
    unfold putAll
    show putAll l (k + 1) (upd vs k v) (a.put p.dst (upd vs k v k)) = _
    rw [upd_same, putAll_congr l (k + 1) (upd vs k v) vs _ (fun j hj => upd_other _ _ _ _ (by omega))]
    cases hd : p.dst with
    | none => rfl
    | some d =>
      unfold slotsOk at hs
      rw [hd] at hs
      simp only [Bool.and_eq_true] at hs
      rw [putAll_put d v l (k + 1) vs _ hs.1.2, put_put]
  | p :: l, k, j + 1, o, vs, a, v, hs, h => by
    unfold putAll
    unfold slotsOk at hs
    rw [Bool.and_eq_true] at hs
    have e : k + (j + 1) = k + 1 + j := by omega
    rw [e, upd_other _ _ _ _ (by omega), putAll_upd n l (k + 1) j o vs _ v hs.2 (by simpa using h)]
theorem put_size (a : Act) (d : Option Tmp) (v : Value) : (a.put d v).tmps.size = a.tmps.size := by
  cases d <;> simp [Act.put]
theorem putAll_base (n : Nat) : ∀ (l : List Oper) (k : Nat) (a : Act), a.tmps.size = n → slotsOk n l = true → putAll l k (fun i => match (l[i - k]?).bind (·.dst) with | none => undef | some d => a.tmps.getD d undef) a = a
  | [], _, _, _, _ => rfl
  | p :: l, k, a, hn, hs => by
    unfold putAll
    unfold slotsOk at hs
    rw [Bool.and_eq_true] at hs
    have e : a.put p.dst (match (((p :: l)[k - k]?).bind (·.dst)) with | none => undef | some d => a.tmps.getD d undef) = a := by
      simp only [Nat.sub_self, List.getElem?_cons_zero, Option.bind_some]
      cases hd : p.dst with
      | none => rfl
      | some d =>
        rw [hd] at hs
        simp only [Bool.and_eq_true, decide_eq_true_eq] at hs
        have hlt : d < a.tmps.size := by rw [hn]; exact hs.1.1
        unfold Act.put
        simp only
        have : a.tmps.setIfInBounds d (a.tmps.getD d undef) = a.tmps := by
          apply Array.ext_getElem?
          intro i
          rw [Array.getElem?_setIfInBounds]
          split
          · rename_i h; subst h; simp [hlt]
          · rfl
        rw [this]
    rw [e, putAll_congr l (k + 1) _ (fun i => match (l[i - (k + 1)]?).bind (·.dst) with | none => undef | some d => a.tmps.getD d undef) a ?_]
    · exact putAll_base n l (k + 1) a hn hs.2
    · intro j hj
      obtain ⟨i, rfl⟩ : ∃ i, j = k + 1 + i := ⟨j - (k + 1), by omega⟩
      rw [show k + 1 + i - k = i + 1 by omega, show k + 1 + i - (k + 1) = i by omega, List.getElem?_cons_succ]
/-- Each operation waits for earlier ones alone. -/
def depsOk : Nat → List Oper → Bool
  | _, [] => true
  | k, o :: l => (o.after.all fun e => !Region.binds .any e || decide (e.on < k)) && depsOk (k + 1) l
theorem depsOk_at : ∀ (l : List Oper) (k i : Nat) (o : Oper), depsOk k l = true → l[i]? = some o → ∀ e ∈ o.after, Region.binds .any e = true → e.on < k + i
  | [], _, _, _, _, h => by cases h
  | p :: l, k, 0, o, hd, h => by
    obtain rfl : p = o := by simpa using h
    unfold depsOk at hd
    rw [Bool.and_eq_true] at hd
    intro e he hb
    have := Array.all_eq_true_iff_forall_mem.1 hd.1 e he
    simpa [hb] using this
  | p :: l, k, i + 1, o, hd, h => by
    unfold depsOk at hd
    rw [Bool.and_eq_true] at hd
    intro e he hb
    have := depsOk_at l (k + 1) i o hd.2 (by simpa using h) e he hb
    omega
/-- The rule. -/
theorem wp_region_put {P : Program} {l : List Oper} {Q : Exit → Act → World → Prop} {id : Nat} {a : Act} {w : World} (hm : P.follows .mixedOrders = true) (hs : slotsOk a.tmps.size l = true) (hd : depsOk 0 l = true) (Inv : (Nat → Bool) → (Nat → Value) → World → Prop)
    (h0 : ∀ vs, Inv (fun _ => false) vs w.drew)
    (hstep : ∀ b vs w i o, l[i]? = some o → b i = false → (∀ e ∈ o.after, Region.binds .any e = true → b e.on = true) → Inv b vs w →
      wpOp P l.toArray Q i (fun a' w' => ∃ v, a' = (putAll l 0 vs a).put o.dst v ∧ Inv (upd b i true) (upd vs i v) w') (putAll l 0 vs a) w)
    (hend : ∀ b vs w, (∀ i, i < l.length → b i = true) → Inv b vs w → Q .normal (putAll l 0 vs a) w) : (Code.region id l.toArray true).wp P Q a w := by
  refine wp_region_inv hm (fun listed a' w' => listed.size = l.length ∧ ∃ vs b, a' = putAll l 0 vs a ∧ (∀ i, i < l.length → b i = listed.getD i false) ∧ (∀ i, l.length ≤ i → b i = false) ∧ Inv b vs w') ?_ ?_ ?_
  · refine ⟨by simp, _, fun _ => false, (putAll_base _ l 0 a rfl hs).symm, fun i hi => by simp [hi], fun _ _ => rfl, h0 _⟩
  · rintro listed a' w' i ⟨hsz, vs, b, rfl, hb, hb', hi⟩ hr
    obtain ⟨hun, o, ho, hall⟩ := mem_ready.1 hr
    have ho' : l[i]? = some o := by simpa using ho
    have hlt : i < l.length := (List.getElem?_eq_some_iff.1 ho').1
    have hun' : listed.getD i false = false := by
      have : i < listed.size := by omega
      simp [this] at hun ⊢; exact hun
    refine wpOp_mono ?_ (hstep b vs w' i o ho' (by rw [hb i hlt]; exact hun') (fun e he hbd => ?_) hi)
    · rintro a'' w'' ⟨v, rfl, hi'⟩
      refine ⟨by simp [hsz], upd vs i v, upd b i true, ?_, ?_, ?_, hi'⟩
      · have := putAll_upd _ l 0 i o vs a v hs ho'
        rw [Nat.zero_add] at this
        exact this.symm
      · intro j hj
        by_cases e : j = i
        · subst e; rw [upd_same]; simp [hsz, hj]
        · rw [upd_other _ _ _ _ e, hb j hj]; simp only [Array.getD_eq_getD_getElem?, Array.getElem?_setIfInBounds_ne (Ne.symm e)]
      · intro j hj
        rw [upd_other _ _ _ _ (by omega)]; exact hb' j hj
    · have h := hall e he hbd
      have hel : e.on < l.length := by
        rcases Nat.lt_or_ge e.on listed.size with h' | h'
        · omega
        · simp [Array.getElem?_eq_none h'] at h
      rw [hb _ hel]; exact h
  · rintro listed a' w' ⟨hsz, vs, b, rfl, hb, hb', hi⟩ hr
    refine hend b vs w' ?_ hi
    intro i
    induction i using Nat.strongRecOn with
    | ind i ih =>
      intro hlt
      cases hbi : b i with
      | true => rfl
      | false =>
        obtain ⟨o, ho⟩ : ∃ o, l[i]? = some o := ⟨_, List.getElem?_eq_getElem hlt⟩
        have hin : i ∈ Region.ready .any l.toArray listed := by
          refine mem_ready.2 ⟨?_, o, by simpa using ho, fun e he hbd => ?_⟩
          · have : i < listed.size := by omega
            have h2 : listed.getD i false = false := by rw [← hb i hlt]; exact hbi
            simp [this] at h2 ⊢; exact h2
          · have h1 := depsOk_at l 0 i o hd ho e he hbd
            rw [← hb e.on (by omega)]
            exact ih e.on (by omega) (by omega)
        rw [hr] at hin
        cases hin
/-- A block of cells at hand in memory. -/
def Blk (w : World) (g : Nat) (t : TypeId) (cs : Array Value) : Prop := w.heap[g]? = some (.cells cs t (0, 0))
section
variable {w w' : World} {g : Nat} {t : TypeId} {cs : Array Value}
theorem Blk.cell (h : Blk w g t cs) (i : Nat) : w.cell? ⟨g, i, none⟩ = cs[i]? := Joins.cell_of_block h i
theorem Blk.free (h : Blk w g t cs) (i : Nat) : w.frozen? ⟨g, i, none⟩ = false := Joins.unfrozen_of_block h i
theorem Blk.on {B : Nat} (h : Blk w g t cs) (hb : Below B w w') (hg : g < B) : Blk w' g t cs := by unfold Blk; rw [hb.block g hg]; exact h
theorem Blk.lt (h : Blk w g t cs) : g < w.heap.size := (Array.getElem?_eq_some_iff.1 h).1
theorem Blk.grow (h : Blk w g t cs) (hb : Below w.heap.size w w') : Blk w' g t cs := h.on hb h.lt
theorem Blk.alloc (h : Blk w g t cs) (o : Obj) : Blk (w.alloc o) g t cs := by unfold Blk; rw [heap_alloc_old _ _ h.lt]; exact h
theorem Blk.set (h : Blk w g t cs) (i : Nat) (v : Value) : Blk (w.setCell ⟨g, i, none⟩ v) g t (cs.setIfInBounds i v) := Joins.block_setCell h v
theorem Blk.other (h : Blk w g t cs) (a : Addr) (v : Value) (hne : g ≠ a.block) : Blk (w.setCell a v) g t cs := by
  unfold Blk; rw [Below.heap_setCell _ _ _ _ hne]; exact h
theorem Blk.new (w : World) (t : TypeId) (cs : Array Value) : Blk (w.alloc (.cells cs t)) w.heap.size t cs := heap_alloc_new _ _
end
def two (p : Pt) : Array Value := #[.int .i64 p.1, .int .i64 p.2]
theorem Blk.p0 {w : World} {g : Nat} {t : TypeId} {x y : Int} (h : Blk w g t (two (x, y))) : w.cell? ⟨g, 0, none⟩ = some (.int .i64 x) := h.cell 0
theorem Blk.p1 {w : World} {g : Nat} {t : TypeId} {x y : Int} (h : Blk w g t (two (x, y))) : w.cell? ⟨g, 1, none⟩ = some (.int .i64 y) := h.cell 1
theorem Blk.setP {w : World} {g : Nat} {t : TypeId} {p : Pt} (h : Blk w g t (two p)) (x y : Int) : Blk ((w.setCell ⟨g, 0, none⟩ (.int .i64 x)).setCell ⟨g, 1, none⟩ (.int .i64 y)) g t (two (x, y)) := (h.set 0 _).set 1 _
theorem Blk.otherP {w : World} {g g' : Nat} {t : TypeId} {cs : Array Value} (h : Blk w g t cs) (hne : g ≠ g') (v u : Value) : Blk ((w.setCell ⟨g', 0, none⟩ v).setCell ⟨g', 1, none⟩ u) g t cs := (h.other _ _ hne).other _ _ hne
theorem below_two {w w' : World} {B g : Nat} (h : Below B w w') (hg : B ≤ g) (v u : Value) : Below B w ((w'.setCell ⟨g, 0, none⟩ v).setCell ⟨g, 1, none⟩ u) := (h.setCell hg _).setCell hg _
/-- A variable of such a region: the operation that makes it, the one that stores into it, what is stored. -/
structure Laid where
  al : Nat
  st : Nat
  cs : Array Value
/-- What holds, whichever operations have come up. -/
def LayM (w1 : World) (t : TypeId) (z : Array Value) (A : List Laid) (b : Nat → Bool) (vs : Nat → Value) (w : World) : Prop :=
  Below w1.heap.size w1 w ∧ (∀ x ∈ A, b x.al = true → ∃ g, vs x.al = .pointer (some ⟨g, 0, none⟩) ∧ w1.heap.size ≤ g ∧ Blk w g t (if b x.st = true then x.cs else z)) ∧
    (∀ x ∈ A, ∀ y ∈ A, x.al ≠ y.al → b x.al = true → b y.al = true → vs x.al ≠ vs y.al) ∧ (∀ x ∈ A, b x.st = true → b x.al = true)
section
variable {w1 w w' : World} {t : TypeId} {z : Array Value} {A : List Laid} {b : Nat → Bool} {vs : Nat → Value}
theorem LayM.start (vs : Nat → Value) : LayM w1 t z A (fun _ => false) vs w1.drew :=
  ⟨⟨rfl, rfl, rfl, Nat.le_refl _, fun _ _ => rfl⟩, fun _ _ h => (Bool.noConfusion h), fun _ _ _ _ _ h => (Bool.noConfusion h), fun _ _ h => (Bool.noConfusion h)⟩
theorem LayM.below (h : LayM w1 t z A b vs w) : Below w1.heap.size w1 w := h.1
theorem LayM.grow (h : LayM w1 t z A b vs w) (hb : Below w.heap.size w w') : LayM w1 t z A b vs w' :=
  ⟨below_next h.1 hb, fun x hx hbx => by
    obtain ⟨g, e, l, k⟩ := h.2.1 x hx hbx
    exact ⟨g, e, l, k.grow hb⟩, h.2.2.1, h.2.2.2⟩
/-- An operation that is none of these. -/
theorem LayM.other (h : LayM w1 t z A b vs w) (i : Nat) (v : Value) (hi : (A.all fun x => decide (x.al ≠ i) && decide (x.st ≠ i)) = true) : LayM w1 t z A (upd b i true) (upd vs i v) w := by
  have hm : ∀ x ∈ A, x.al ≠ i ∧ x.st ≠ i := fun x hx => by
    have := List.all_eq_true.1 hi x hx
    simpa using this
  refine ⟨h.1, fun x hx hbx => ?_, fun x hx y hy hxy hbx hby => ?_, fun x hx hbx => ?_⟩
  · rw [upd_other _ _ _ _ (hm x hx).1] at hbx
    rw [upd_other _ _ _ _ (hm x hx).1, upd_other _ _ _ _ (hm x hx).2]
    exact h.2.1 x hx hbx
  · rw [upd_other _ _ _ _ (hm x hx).1] at hbx ⊢
    rw [upd_other _ _ _ _ (hm y hy).1] at hby ⊢
    exact h.2.2.1 x hx y hy hxy hbx hby
  · rw [upd_other _ _ _ _ (hm x hx).2] at hbx
    rw [upd_other _ _ _ _ (hm x hx).1]
    exact h.2.2.2 x hx hbx
/-- The numbers are all different. -/
def numsOk : List Laid → Bool
  | [] => true
  | x :: l => decide (x.al ≠ x.st) && (l.all fun y => decide (x.al ≠ y.al) && decide (x.al ≠ y.st) && decide (x.st ≠ y.al) && decide (x.st ≠ y.st)) && numsOk l
theorem nums_at : ∀ {A : List Laid}, numsOk A = true → ∀ x ∈ A, ∀ y ∈ A, x = y ∨ (x.al ≠ y.al ∧ x.al ≠ y.st ∧ x.st ≠ y.al ∧ x.st ≠ y.st)
  | [], _, _, h, _, _ => by cases h
  | a :: l, h, x, hx, y, hy => by
    unfold numsOk at h
    simp only [Bool.and_eq_true, decide_eq_true_eq, List.all_eq_true] at h
    rcases List.mem_cons.1 hx with hxa | hxl
    · subst hxa
      rcases List.mem_cons.1 hy with hya | hyl
      · exact .inl hya.symm
      · have := h.1.2 y hyl
        exact .inr ⟨this.1.1.1, this.1.1.2, this.1.2, this.2⟩
    · rcases List.mem_cons.1 hy with hya | hyl
      · subst hya
        have := h.1.2 x hxl
        exact .inr ⟨Ne.symm this.1.1.1, Ne.symm this.1.2, Ne.symm this.1.1.2, Ne.symm this.2⟩
      · exact nums_at h.2 x hxl y hyl
theorem nums_self : ∀ {A : List Laid}, numsOk A = true → ∀ x ∈ A, x.al ≠ x.st
  | [], _, _, h => by cases h
  | a :: l, h, x, hx => by
    unfold numsOk at h
    simp only [Bool.and_eq_true, decide_eq_true_eq] at h
    rcases List.mem_cons.1 hx with rfl | hx
    · exact h.1.1
    · exact nums_self h.2 x hx
/-- The variable is made. -/
theorem LayM.made (h : LayM w1 t z A b vs w) (hA : numsOk A = true) (x : Laid) (hx : x ∈ A) (hun : b x.al = false) :
    LayM w1 t z A (upd b x.al true) (upd vs x.al (.pointer (some ⟨w.heap.size, 0, none⟩))) (w.alloc (.cells z t)) := by
  have hself := nums_self hA
  have hno : b x.st = false := by
    cases hb : b x.st
    · rfl
    · rw [h.2.2.2 x hx hb] at hun; cases hun
  refine ⟨h.1.alloc h.1.size _, fun y hy hby => ?_, fun y hy u hu hyu hby hbu => ?_, fun y hy hby => ?_⟩
  · rcases nums_at hA x hx y hy with rfl | ⟨d1, d2, d3, d4⟩
    · rw [upd_same, upd_other _ _ _ _ (Ne.symm (hself x hx)), hno]
      exact ⟨_, rfl, h.1.size, Blk.new _ _ _⟩
    · rw [upd_other _ _ _ _ (Ne.symm d1)] at hby ⊢
      rw [upd_other _ _ _ _ (Ne.symm d2)]
      obtain ⟨g, e, l, k⟩ := h.2.1 y hy hby
      exact ⟨g, e, l, k.alloc _⟩
  · have key : ∀ y ∈ A, y.al ≠ x.al → b y.al = true → vs y.al ≠ .pointer (some ⟨w.heap.size, 0, none⟩) := fun y hy _ hby e => by
      obtain ⟨g, e', _, k⟩ := h.2.1 y hy hby
      rw [e'] at e
      have := k.lt
      simp at e
      try omega
    by_cases e1 : y.al = x.al
    · have e2 : u.al ≠ x.al := fun e => hyu (e1.trans e.symm)
      rw [e1, upd_same, upd_other _ _ _ _ e2]
      rw [upd_other _ _ _ _ e2] at hbu
      exact (key u hu e2 hbu).symm
    · rw [upd_other _ _ _ _ e1] at hby ⊢
      by_cases e2 : u.al = x.al
      · rw [e2, upd_same]; exact key y hy e1 hby
      · rw [upd_other _ _ _ _ e2] at hbu ⊢
        exact h.2.2.1 y hy u hu hyu hby hbu
  · rcases nums_at hA x hx y hy with rfl | ⟨d1, d2, d3, d4⟩
    · exact upd_same _ _ _
    · rw [upd_other _ _ _ _ (Ne.symm d2)] at hby
      rw [upd_other _ _ _ _ (Ne.symm d1)]
      exact h.2.2.2 y hy hby
/-- It is stored into. -/
theorem LayM.stored (h : LayM w1 t z A b vs w) (hA : numsOk A = true) (x : Laid) (hx : x ∈ A) (v : Value) {g : Nat} (hal : b x.al = true) (hg : vs x.al = .pointer (some ⟨g, 0, none⟩)) (hB : Below w1.heap.size w1 w')
    (hblk : Blk w' g t x.cs) (hoth : ∀ g' cs, g' ≠ g → Blk w g' t cs → Blk w' g' t cs) : LayM w1 t z A (upd b x.st true) (upd vs x.st v) w' := by
  have hself := nums_self hA
  refine ⟨hB, fun y hy hby => ?_, fun y hy u hu hyu hby hbu => ?_, fun y hy hby => ?_⟩
  · rcases nums_at hA x hx y hy with rfl | ⟨d1, d2, d3, d4⟩
    · rw [upd_other _ _ _ _ (hself x hx), upd_same, hg]
      obtain ⟨g2, e, l, _⟩ := h.2.1 x hx hal
      rw [hg] at e
      simp at e
      subst e
      exact ⟨g, rfl, l, hblk⟩
    · rw [upd_other _ _ _ _ (Ne.symm d3)] at hby ⊢
      rw [upd_other _ _ _ _ (Ne.symm d4)]
      obtain ⟨g2, e, l, k⟩ := h.2.1 y hy hby
      refine ⟨g2, e, l, hoth g2 _ (fun e' => ?_) k⟩
      refine h.2.2.1 x hx y hy d1 hal hby ?_
      rw [hg, e, e']
  · have d : ∀ y ∈ A, y.al ≠ x.st := fun y hy => by
      rcases nums_at hA x hx y hy with rfl | ⟨_, _, d3, _⟩
      · exact hself x hx
      · exact Ne.symm d3
    rw [upd_other _ _ _ _ (d y hy)] at hby ⊢
    rw [upd_other _ _ _ _ (d u hu)] at hbu ⊢
    exact h.2.2.1 y hy u hu hyu hby hbu
  · rcases nums_at hA x hx y hy with rfl | ⟨d1, d2, d3, d4⟩
    · rw [upd_other _ _ _ _ (hself x hx)]; exact hal
    · rw [upd_other _ _ _ _ (Ne.symm d4)] at hby
      rw [upd_other _ _ _ _ (Ne.symm d3)]
      exact h.2.2.2 y hy hby
/-- At hand, ahead of the store. -/
theorem LayM.at (h : LayM w1 t z A b vs w) (x : Laid) (hx : x ∈ A) (hal : b x.al = true) (hun : b x.st = false) : ∃ g, vs x.al = .pointer (some ⟨g, 0, none⟩) ∧ w1.heap.size ≤ g ∧ Blk w g t z := by
  obtain ⟨g, e, l, k⟩ := h.2.1 x hx hal
  rw [hun] at k
  exact ⟨g, e, l, k⟩
/-- At the end. -/
theorem LayM.done (h : LayM w1 t z A b vs w) (x : Laid) (hx : x ∈ A) (hal : b x.al = true) (hst : b x.st = true) : ∃ g, vs x.al = .pointer (some ⟨g, 0, none⟩) ∧ w1.heap.size ≤ g ∧ Blk w g t x.cs := by
  obtain ⟨g, e, l, k⟩ := h.2.1 x hx hal
  rw [hst] at k
  exact ⟨g, e, l, k⟩
theorem LayM.ne (h : LayM w1 t z A b vs w) (x y : Laid) (hx : x ∈ A) (hy : y ∈ A) (hxy : x.al ≠ y.al) (hbx : b x.al = true) (hby : b y.al = true) {g k : Nat} (ex : vs x.al = .pointer (some ⟨g, 0, none⟩)) (ey : vs y.al = .pointer (some ⟨k, 0, none⟩)) : g ≠ k := fun e => by
  subst e
  exact h.2.2.1 x hx y hy hxy hbx hby (ex.trans ey.symm)
end
theorem Blk.newAt (w : World) (t : TypeId) (cs : Array Value) {g : Nat} (h : w.heap.size = g) : Blk (w.alloc (.cells cs t)) g t cs := by subst h; exact Blk.new _ _ _
theorem wrapR (n : Int) (h0 : -9223372036854775808 ≤ n) (h1 : n ≤ 9223372036854775807) : wrap64 n = n := by unfold wrap64; omega
theorem wrap_is (n : Int) : IntKind.i64.wrap n = wrap64 n := by rw [IntKind.wrap_i64]; unfold wrap64; omega
theorem retB {a b : Bool} (h : a = b) : Ending.returned (.bool a) = .returned (.bool b) := by rw [h]
theorem retI {k : IntKind} {a b : Int} (h : a = b) : Ending.returned (.int k a) = .returned (.int k b) := by rw [h]
theorem retV {a b : Value} (h : a = b) : Ending.returned a = .returned b := by rw [h]
theorem below_drewN {B : Nat} {a w : World} (h : Below B a w) (n : Nat) : Below B a (w.drewN n) := h.trans ⟨rfl, rfl, rfl, Nat.le_refl _, fun _ _ => rfl⟩
/-- The cells of a row of points. -/
def flatL : List Pt → List Value
  | [] => []
  | p :: l => .int .i64 p.1 :: .int .i64 p.2 :: flatL l
def flat (l : List Pt) : Array Value := (flatL l).toArray
theorem flatL_at : ∀ (l : List Pt) (i : Nat) (p : Pt), l[i]? = some p → (flatL l)[i * 2]? = some (.int .i64 p.1) ∧ (flatL l)[i * 2 + 1]? = some (.int .i64 p.2)
  | [], _, _, h => by cases h
  | q :: l, 0, p, h => by
    obtain rfl : q = p := by simpa using h
    exact ⟨rfl, rfl⟩
  | q :: l, i + 1, p, h => by
    have h := flatL_at l i p (by simpa using h)
    rw [show (i + 1) * 2 = i * 2 + 1 + 1 by omega]
    exact h
theorem PtsAt.ofBlk {w : World} {g : Nat} {t : TypeId} {l : List Pt} (h : Blk w g t (flat l)) : PtsAt w g 0 l := fun i p hp => by
  have e := flatL_at l i p hp
  rw [Nat.zero_add, h.cell, h.cell]
  simpa [flat] using e
theorem Row.new (w : World) (l : List Pt) (t : TypeId) (cs : Array Value) (n : Nat) (hcs : cs = flat l) (hn : n = l.length) : Row (w.alloc (.cells cs t)) (.slice (some ⟨w.heap.size, 0, none⟩) n n) l := by
  subst hcs hn
  exact .inr (.inr ⟨_, _, _, rfl, by simp, PtsAt.ofBlk (Blk.new w t (flat l))⟩)
theorem flatL_append : ∀ (l m : List Pt), flatL (l ++ m) = flatL l ++ flatL m
  | [], _ => rfl
  | p :: l, m => by simp [flatL, flatL_append l m]
theorem flatL_length : ∀ l : List Pt, (flatL l).length = l.length * 2
  | [] => rfl
  | p :: l => by simp [flatL, flatL_length l]; omega
theorem flatL_one : ∀ (l : List Pt) (u : Value), u ∈ flatL l → u.oneCell' = true
  | [], _, h => by cases h
  | p :: l, u, h => by
    simp only [flatL, List.mem_cons] at h
    rcases h with rfl | rfl | h
    · rfl
    · rfl
    · exact flatL_one l u h
/-- A row of points that the call owns. -/
def Own (w : World) (base : Nat) (t : TypeId) (v : Value) (l : List Pt) : Prop := w.ownsRow base t 2 v l.length (flatL l)
theorem Own.nil (w : World) (base : Nat) (t : TypeId) : Own w base t (.slice none 0 0) [] := World.ownsRow_nil _ _ _ _
theorem Own.row {w : World} {base : Nat} {t : TypeId} {v : Value} {l : List Pt} (h : Own w base t v l) : Row w v l := by
  obtain ⟨_, ⟨rfl, hn⟩ | ⟨g, cap, cur, rfl, _, hg, hc, _, hs, ht⟩⟩ := h
  · exact .inl ⟨rfl, List.eq_nil_of_length_eq_zero hn⟩
  · refine .inr (.inr ⟨g, 0, cap, rfl, (Array.getElem?_eq_some_iff.1 hg).1, fun i p hp => ?_⟩)
    have e := flatL_at l i p hp
    have hi : i < l.length := (List.getElem?_eq_some_iff.1 hp).1
    have key : ∀ j, j < l.length * 2 → w.cell? ⟨g, j, none⟩ = (flatL l)[j]? := fun j hj => by
      rw [Joins.cell_of_block hg j, ← ht, List.getElem?_take, if_pos hj]; simp
    rw [Nat.zero_add, key _ (by omega), key _ (by omega)]
    exact e
theorem Own.grow {w w' : World} {base : Nat} {t : TypeId} {v : Value} {l : List Pt} (h : Own w base t v l) (hb : Below w.heap.size w w') : Own w' base t v l := by
  unfold Own World.ownsRow at *
  obtain ⟨h1, h2 | ⟨g, cap, cur, e1, e2, hg, e3⟩⟩ := h
  · exact ⟨h1, .inl h2⟩
  · exact ⟨h1, .inr ⟨g, cap, cur, e1, e2, by rw [hb.block g (Array.getElem?_eq_some_iff.1 hg).1]; exact hg, e3⟩⟩
/-- What an append leaves of older memory. -/
theorem own_below {w W w' : World} {B base : Nat} {e : TypeId} {size : Nat} {v : Value} {n : Nat} {xs : List Value} (h : W.ownsRow base e size v n xs) (g : W.grownBy w' v.ownBlock) (hb : Below B w W) (hB : B ≤ base) (hs : B ≤ W.heap.size) : Below B w w' :=
  ⟨g.os.trans hb.os, g.tape.trans hb.tape, g.output.trans hb.output, Nat.le_trans hb.size g.size, fun k hk => by
    rw [g.block k (by omega) (fun e => by have := h.lt k e.symm; omega)]; exact hb.block k hk⟩
theorem own_blk {W w' : World} {base : Nat} {e : TypeId} {size : Nat} {v : Value} {n : Nat} {xs : List Value} (h : W.ownsRow base e size v n xs) (g : W.grownBy w' v.ownBlock) {k : Nat} {t : TypeId} {cs : Array Value} (hk : Blk W k t cs) (hlt : k < base) : Blk w' k t cs := by
  unfold Blk
  rw [g.block k hk.lt (fun e => by have := h.lt k e.symm; omega)]; exact hk
/-- Another row of the call's own, in a block of its own. -/
theorem own_other {W w' : World} {v : Value} (g : W.grownBy w' v.ownBlock) {base' : Nat} {t : TypeId} {u : Value} {l : List Pt} (hk : Own W base' t u l) (hne : u.ownBlock = none ∨ u.ownBlock ≠ v.ownBlock) : Own w' base' t u l :=
  World.ownsRow.kept hk g hne
theorem Row.shape {w : World} {v : Value} {l : List Pt} (h : Row w v l) : ∃ ao c, v = .slice ao l.length c := by
  rcases h with ⟨rfl, rfl⟩ | ⟨a, c, rfl, rfl⟩ | ⟨b, o, c, rfl, _, _⟩ <;> exact ⟨_, _, rfl⟩
theorem Row.addr {w : World} {ao : Option Addr} {n c : Nat} {l : List Pt} (h : Row w (.slice ao n c) l) {k : Nat} (hk : k < l.length) : ∃ b o, ao = some ⟨b, o, none⟩ ∧ b < w.heap.size ∧ PtsAt w b o l := by
  rcases h with ⟨_, rfl⟩ | ⟨a, c, _, rfl⟩ | ⟨b, o, c, e, h1, h2⟩
  · simp at hk
  · simp at hk
  · simp at e
    exact ⟨b, o, e.1, h1, h2⟩
theorem infoR : (Tryz.prog.info? 45).map (fun i => (i.zero, i.size, i.bytes)) = some (some (.agg (two (0, 0))), 2, 16) := by kernel_rfl
theorem infoP : (Tryz.prog.info? 50).map (fun i => (i.zero, i.size, i.bytes)) = some (some (.agg (two (0, 0))), 2, 16) := by kernel_rfl
abbrev BlkL := List (Nat × TypeId × Array Value)
def Lays (W : World) : BlkL → Prop
  | [] => True
  | x :: l => Blk W x.1 x.2.1 x.2.2 ∧ Lays W l
theorem Lays.grow {W W' : World} : ∀ {l : BlkL}, Lays W l → Below W.heap.size W W' → Lays W' l
  | [], _, _ => trivial
  | _ :: _, h, b => ⟨h.1.grow b, Lays.grow h.2 b⟩
theorem Lays.alloc {W : World} {o : Obj} : ∀ {l : BlkL}, Lays W l → Lays (W.alloc o) l
  | [], _ => trivial
  | _ :: _, h => ⟨h.1.alloc o, Lays.alloc h.2⟩
theorem Lays.lt {W : World} {x : Nat × TypeId × Array Value} : ∀ {l : BlkL}, Lays W l → x ∈ l → x.1 < W.heap.size
  | [], _, h => by cases h
  | y :: l, h, hx => by
    rcases List.mem_cons.1 hx with rfl | hx
    · exact h.1.lt
    · exact Lays.lt h.2 hx
theorem Lays.other {W : World} (a : Addr) (v : Value) : ∀ {l : BlkL}, Lays W l → (∀ x ∈ l, x.1 ≠ a.block) → Lays (W.setCell a v) l
  | [], _, _ => trivial
  | y :: l, h, hx => ⟨h.1.other a v (hx y (by simp)), Lays.other a v h.2 fun x hm => hx x (by simp [hm])⟩
structure Mem (w W : World) (l : BlkL) : Prop where
  below : Below w.heap.size w W
  lays : Lays W l
theorem Mem.refl (w : World) : Mem w w [] := ⟨Below.refl _ _, trivial⟩
theorem Mem.next {w W W' : World} {l : BlkL} (h : Mem w W l) (b : Below W.heap.size W W') : Mem w W' l := ⟨below_next h.below b, h.lays.grow b⟩
theorem Mem.add {w W : World} {l : BlkL} (h : Mem w W l) (t : TypeId) (cs : Array Value) : Mem w (W.alloc (.cells cs t)) ((W.heap.size, t, cs) :: l) :=
  ⟨h.below.alloc h.below.size _, Blk.newAt _ _ _ rfl, h.lays.alloc⟩
theorem Mem.addAt {w W : World} {l : BlkL} (h : Mem w W l) (t : TypeId) (cs : Array Value) (g : Nat) (hg : W.heap.size = g) : Mem w (W.alloc (.cells cs t)) ((g, t, cs) :: l) := by
  subst hg; exact h.add t cs
theorem Mem.drew {w W : World} {l : BlkL} (h : Mem w W l) : Mem w W.drew l := ⟨below_drewN h.below 1, h.lays.grow ⟨rfl, rfl, rfl, Nat.le_refl _, fun _ _ => rfl⟩⟩
theorem Mem.drewN {w W : World} {l : BlkL} (h : Mem w W l) (k : Nat) : Mem w (W.drewN k) l := ⟨below_drewN h.below k, h.lays.grow ⟨rfl, rfl, rfl, Nat.le_refl _, fun _ _ => rfl⟩⟩
theorem Own.base {w : World} {m n : Nat} {t : TypeId} {v : Value} {l : List Pt} (h : Own w m t v l) (hmn : n ≤ m) : Own w n t v l := by
  obtain ⟨a, c⟩ := h
  refine ⟨a, ?_⟩
  rcases c with h | ⟨g, cap, cur, e, hg, rest⟩
  · exact .inl h
  · exact .inr ⟨g, cap, cur, e, Nat.le_trans hmn hg, rest⟩
/-- A row that an operation yields. -/
structure Made where
  op : Nat
  t : TypeId
  pts : List Pt
/-- A block that one operation stores into. -/
structure Stor where
  g : Nat
  t : TypeId
  z : Array Value
  st : Nat
  cs : Array Value
def RegM (n : Nat) (w0 : World) (A : List Made) (S : List Stor) (l : BlkL) (b : Nat → Bool) (vs : Nat → Value) (w : World) : Prop :=
  (Below n w0 w ∧ n ≤ w.heap.size) ∧ (∀ x ∈ A, b x.op = true → Own w n x.t (vs x.op) x.pts) ∧ (∀ s ∈ S, Blk w s.g s.t (if b s.st = true then s.cs else s.z)) ∧ Lays w l
section
variable {n : Nat} {w0 w w' : World} {A : List Made} {S : List Stor} {l : BlkL} {b : Nat → Bool} {vs : Nat → Value}
theorem RegM.start (h : (Below n w0 w ∧ n ≤ w.heap.size) ∧ (∀ s ∈ S, Blk w s.g s.t s.z) ∧ Lays w l) (vs : Nat → Value) : RegM n w0 A S l (fun _ => false) vs w.drew :=
  ⟨⟨below_drewN h.1.1 1, h.1.2⟩, fun _ _ h => Bool.noConfusion h, h.2.1, h.2.2.grow ⟨rfl, rfl, rfl, Nat.le_refl _, fun _ _ => rfl⟩⟩
theorem RegM.below (h : RegM n w0 A S l b vs w) : Below n w0 w := h.1.1
theorem RegM.lays (h : RegM n w0 A S l b vs w) : Lays w l := h.2.2.2
theorem RegM.grow (h : RegM n w0 A S l b vs w) (hb : Below w.heap.size w w') : RegM n w0 A S l b vs w' :=
  ⟨⟨h.1.1.trans (hb.mono h.1.2), Nat.le_trans h.1.2 hb.size⟩, fun x hx hbx => (h.2.1 x hx hbx).grow hb, fun s hs => (h.2.2.1 s hs).grow hb, h.2.2.2.grow hb⟩
theorem RegM.other (h : RegM n w0 A S l b vs w) (i : Nat) (v : Value) (hi : ((A.all fun x => decide (x.op ≠ i)) && S.all fun s => decide (s.st ≠ i)) = true) : RegM n w0 A S l (upd b i true) (upd vs i v) w := by
  rw [Bool.and_eq_true] at hi
  have hA : ∀ x ∈ A, x.op ≠ i := fun x hx => by simpa using List.all_eq_true.1 hi.1 x hx
  have hS : ∀ x ∈ S, x.st ≠ i := fun x hx => by simpa using List.all_eq_true.1 hi.2 x hx
  refine ⟨h.1, fun x hx hbx => ?_, fun s hs => ?_, h.2.2.2⟩
  · rw [upd_other _ _ _ _ (hA x hx)] at hbx ⊢
    exact h.2.1 x hx hbx
  · rw [upd_other _ _ _ _ (hS s hs)]
    exact h.2.2.1 s hs
/-- A call has yielded a row. -/
theorem RegM.made (h : RegM n w0 A S l b vs w) (x : Made) (v : Value) (ho : Own w n x.t v x.pts) (hA : ∀ y ∈ A, y.op = x.op → y.t = x.t ∧ y.pts = x.pts) (hS : (S.all fun s => decide (s.st ≠ x.op)) = true) : RegM n w0 A S l (upd b x.op true) (upd vs x.op v) w := by
  have hS : ∀ s ∈ S, s.st ≠ x.op := fun s hs => by simpa using List.all_eq_true.1 hS s hs
  refine ⟨h.1, fun y hy hby => ?_, fun s hs => ?_, h.2.2.2⟩
  · by_cases e : y.op = x.op
    · have := hA y hy e
      rw [e, upd_same, this.1, this.2]
      exact ho
    · rw [upd_other _ _ _ _ e] at hby ⊢
      exact h.2.1 y hy hby
  · rw [upd_other _ _ _ _ (hS s hs)]
    exact h.2.2.1 s hs
theorem RegM.at (h : RegM n w0 A S l b vs w) (s : Stor) (hs : s ∈ S) (hun : b s.st = false) : Blk w s.g s.t s.z := by
  have := h.2.2.1 s hs
  rw [hun] at this
  exact this
theorem RegM.done (h : RegM n w0 A S l b vs w) (s : Stor) (hs : s ∈ S) (hd : b s.st = true) : Blk w s.g s.t s.cs := by
  have := h.2.2.1 s hs
  rw [hd] at this
  exact this
theorem RegM.row (h : RegM n w0 A S l b vs w) (x : Made) (hx : x ∈ A) (hd : b x.op = true) : Own w n x.t (vs x.op) x.pts := h.2.1 x hx hd
/-- The one store of a region in which no call yields a row. -/
theorem RegM.stored {s : Stor} (h : RegM n w0 [] [s] l b vs w) (u : Value) (hb : Below n w0 w') (hsz : w'.heap.size = w.heap.size) (hc : Blk w' s.g s.t s.cs) (hl : Lays w' l) : RegM n w0 [] [s] l (upd b s.st true) (upd vs s.st u) w' := by
  refine ⟨⟨hb, by have := h.1.2; omega⟩, fun _ hx => (by cases hx), fun x hx => ?_, hl⟩
  obtain rfl : x = s := by simpa using hx
  rw [upd_same, if_pos rfl]
  exact hc
end
theorem wanted_at {ops : Array Oper} {tmps : Array Value} {o : Oper} {j t : Nat} {b : Bool} (hg : o.guard = some (j, b)) (hd : (ops[j]?).bind (·.dst) = some t) (ht : tmps[t]? = some (.bool b)) : Region.wanted o (yielded ops tmps) = true := by
  unfold Region.wanted yielded
  rw [hg]
  simp [hd, ht]
theorem unwanted_at {ops : Array Oper} {tmps : Array Value} {o : Oper} {j t : Nat} {b c : Bool} (hg : o.guard = some (j, b)) (hd : (ops[j]?).bind (·.dst) = some t) (ht : tmps[t]? = some (.bool c)) (hbc : c ≠ b) : ¬ Region.wanted o (yielded ops tmps) = true := by
  unfold Region.wanted yielded
  rw [hg]
  simp [hd, ht, hbc]
theorem putAll_size : ∀ (l : List Oper) (k : Nat) (vs : Nat → Value) (a : Act), (putAll l k vs a).tmps.size = a.tmps.size
  | [], _, _, _ => rfl
  | o :: l, k, vs, a => by unfold putAll; rw [putAll_size l, put_size]
theorem slotsOk_lt {n : Nat} : ∀ {l : List Oper} {j : Nat} {o : Oper} {t : Tmp}, slotsOk n l = true → l[j]? = some o → o.dst = some t → t < n
  | [], _, _, _, _, h, _ => by cases h
  | p :: l, 0, o, t, hs, h, hd => by
    obtain rfl : p = o := by simpa using h
    unfold slotsOk at hs
    rw [hd] at hs
    simp only [Bool.and_eq_true, decide_eq_true_eq] at hs
    exact hs.1.1
  | p :: l, j + 1, o, t, hs, h, hd => by
    unfold slotsOk at hs
    rw [Bool.and_eq_true] at hs
    exact slotsOk_lt hs.2 (by simpa using h) hd
/-- What an operation has yielded stands in its slot. -/
theorem putAll_at {l : List Oper} {vs : Nat → Value} {a : Act} (hs : slotsOk a.tmps.size l = true) {j : Nat} {o : Oper} {t : Tmp} (h : l[j]? = some o) (hd : o.dst = some t) : (putAll l 0 vs a).tmps[t]? = some (vs j) := by
  have e := putAll_upd _ l 0 j o vs a (vs j) hs h
  have hu : upd vs (0 + j) (vs j) = vs := by
    funext i
    unfold upd
    split
    · rename_i hi; rw [hi, Nat.zero_add]
    · rfl
  rw [hu, hd] at e
  rw [e]
  have hlt : t < (putAll l 0 vs a).tmps.size := by rw [putAll_size]; exact slotsOk_lt hs h hd
  simp [Act.put, hlt]
/-- One operation of a region, its guard told. -/
inductive StepOk (P : Program) (l : List Oper) (Q : Exit → Act → World → Prop) (o : Oper) (vs : Nat → Value) (a : Act) (w : World) (K : Act → World → Prop) : Prop
  | plain (hg : o.guard = none) (h : ∀ K', (∀ a w, K a w → K' a w) → o.wp P a w K' Q)
  | on (j : Nat) (c : Bool) (hg : o.guard = some (j, c)) (hd : ((l[j]?).bind (·.dst)).isSome = true) (hv : vs j = .bool c) (h : ∀ K', (∀ a w, K a w → K' a w) → o.wp P a w K' Q)
  | off (j : Nat) (c : Bool) (hg : o.guard = some (j, c)) (hd : ((l[j]?).bind (·.dst)).isSome = true) (hv : vs j = .bool (!c)) (h : K (a.put o.dst undef) w)
theorem StepOk.step {P : Program} {l : List Oper} {Q : Exit → Act → World → Prop} {o : Oper} {vs : Nat → Value} {a : Act} {w : World} {K : Act → World → Prop} {i : Nat} (hs : slotsOk a.tmps.size l = true) (ho : l[i]? = some o) (h : StepOk P l Q o vs (putAll l 0 vs a) w K) : wpOp P l.toArray Q i K (putAll l 0 vs a) w := by
  have ho' : l.toArray[i]? = some o := by simpa using ho
  refine wpOp_step ho' (fun K' hK => ?_)
  cases h with
  | plain hg h =>
    rw [if_pos (by unfold Region.wanted; rw [hg])]
    exact h K' hK
  | on j c hg hd hv h =>
    obtain ⟨t, ht⟩ := Option.isSome_iff_exists.1 hd
    obtain ⟨oj, hoj, hdj⟩ := Option.bind_eq_some_iff.1 ht
    rw [if_pos (wanted_at (t := t) hg (by simpa using ht) (by rw [putAll_at hs hoj hdj, hv]))]
    exact h K' hK
  | off j c hg hd hv h =>
    obtain ⟨t, ht⟩ := Option.isSome_iff_exists.1 hd
    obtain ⟨oj, hoj, hdj⟩ := Option.bind_eq_some_iff.1 ht
    rw [if_neg (unwanted_at (t := t) hg (by simpa using ht) (by rw [putAll_at hs hoj hdj, hv]) (by cases c <;> simp))]
    exact hK _ _ h
/-- The rule. -/
theorem wp_region_put3 {P : Program} {l : List Oper} {Q : Exit → Act → World → Prop} {id : Nat} {a : Act} {w : World} (hm : P.follows .mixedOrders = true) (hs : slotsOk a.tmps.size l = true) (hd : depsOk 0 l = true) (Inv : (Nat → Bool) → (Nat → Value) → World → Prop)
    (h0 : ∀ vs, Inv (fun _ => false) vs w.drew)
    (hstep : ∀ b vs w i o, l[i]? = some o → b i = false → (∀ e ∈ o.after, Region.binds .any e = true → b e.on = true) → Inv b vs w →
      StepOk P l Q o vs (putAll l 0 vs a) w (fun a' w' => ∃ v, a' = (putAll l 0 vs a).put o.dst v ∧ Inv (upd b i true) (upd vs i v) w'))
    (hend : ∀ b vs w, (∀ i, i < l.length → b i = true) → Inv b vs w → Q .normal (putAll l 0 vs a) w) : (Code.region id l.toArray true).wp P Q a w :=
  wp_region_put hm hs hd Inv h0 (fun b vs w i o ho hb he hi => (hstep b vs w i o ho hb he hi).step hs ho) hend
end Go.Proofs.YtbnbglngpgikfaaGreatDoor

