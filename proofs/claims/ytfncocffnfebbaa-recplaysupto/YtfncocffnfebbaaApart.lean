/- The walk of heronlaw02.RecApart: unlike numbers of one width have unlike bytes; no text's bytes are the beginning of another one's. -/
import Derived.Test.YtfncocffnfebbaaLater
namespace Go.Proofs.Ytfncocffnfebbaa
open Go.RowKit
attribute [local go_sem ↓] Go.wp_at_zero Go.wp_at_succ

theorem beq_bytes (a b : ByteArray) : (a.toList == b.toList) = decide (a = b) := by
  rw [ByteArray.toList_eq, ByteArray.toList_eq, Bool.eq_iff_iff]
  simp only [beq_iff_eq, decide_eq_true_eq]
  constructor
  · intro h
    have := Array.toList_inj.1 h
    cases a; cases b; simp_all
  · intro h; rw [h]
theorem str_extract (t : ByteArray) (n : Nat) : Rec.str (t.extract 0 n) = (Rec.str t).take n := by
  simp [Rec.str, ByteArray.data_extract, List.map_take]
/-- no text's bytes are the beginning of another one's -/
theorem text_apart {s t : ByteArray} (hs : s.size < 4294967296) (ht : t.size < 4294967296) (h : (Rec.text t).take (4 + s.size) = Rec.text s) : s = t := by
  have h4 : Rec.num t.size 4 = Rec.num s.size 4 := by
    have := congrArg (List.take 4) h
    rw [List.take_take, Nat.min_eq_left (by omega), Rec.text, Rec.text, List.take_left' (Rec.num_length _ _), List.take_left' (Rec.num_length _ _)] at this
    exact this
  have e : t.size = s.size := Rec.num_inj (by rw [Rec.pow4]; exact ht) (by rw [Rec.pow4]; exact hs) h4
  have h2 : Rec.text t = Rec.text s := by
    rw [← h, List.take_of_length_le (by rw [Rec.text_length]; omega)]
  rw [Rec.text, Rec.text, h4] at h2
  exact (Rec.str_inj (List.append_cancel_left h2)).symm

theorem bytesAt_drew {w : World} {a : Option Addr} {zs : List Int} (h : BytesAt w a zs) : BytesAt w.drew a zs := bytesAt_later (Below.refl _ _).drew h

theorem int_beq (a b : Nat) : ((a : Int) == (b : Int)) = decide (a = b) := by rw [Bool.eq_iff_iff]; simp; omega
theorem num_over (V M W : Nat) (w : World) (hM : M = 256 ^ W) : Calls Try.prog 7 #[.int .u64 ((V : Int) + (M : Int)), .int .i64 (W : Int)] w fun e w' => e = .returned (.tuple #[.slice none 0 0, .int .i64 21]) ∧ w' = w := by
  have h := num_no (V + M) W w (Or.inr (Or.inr ⟨W, rfl, by rw [hM]; omega⟩))
  rw [Int.natCast_add] at h
  exact h
/-- an item's block -/
def IB (w : World) (A : Nat) (k n : Int) (x : Nat) (s : ByteArray) : Prop := w.heap[A]? = some (.cells #[.int .i64 k, .int .i64 n, .int .u64 x, .string s] 24 (0, 0))
theorem IB.later {w w' : World} {A : Nat} {k n : Int} {x : Nat} {s : ByteArray} (h : IB w A k n x s) (hb : Below w.heap.size w w') : IB w' A k n x s :=
  (hb.block A (Array.getElem?_eq_some_iff.1 h).1).trans h
theorem IB.cells {w : World} {A : Nat} {k n : Int} {x : Nat} {s : ByteArray} (h : IB w A k n x s) : ItemAt w A k n x s := by
  unfold IB at h
  refine ⟨?_, ?_, ?_, ?_⟩ <;> simp [World.cell?, h]
theorem IB.frozen {w : World} {A : Nat} {k n : Int} {x : Nat} {s : ByteArray} (h : IB w A k n x s) (j : Nat) : w.frozen? ⟨A, j, none⟩ = false := by
  unfold IB at h
  simp [World.frozen?, h]
theorem IB.setN {w : World} {k n : Int} {x : Nat} {s : ByteArray} {B : Nat} (h : IB w B k n x s) (m : Int) : IB (w.setCell ⟨B, 1, none⟩ (.int .i64 m)) B k m x s := by
  unfold IB at h ⊢
  simp only [World.setCell, Array.getElem?_modify, h]
  rfl
theorem IB.other {w : World} {k n : Int} {x : Nat} {s : ByteArray} {A B : Nat} (h : IB w A k n x s) (hne : A ≠ B) (j : Nat) (v : Value) : IB (w.setCell ⟨B, j, none⟩ v) A k n x s := by
  unfold IB at h ⊢
  rw [Below.heap_setCell w ⟨B, j, none⟩ v A hne]
  exact h
theorem ib_new (w : World) (k n : Int) (x : Nat) (s : ByteArray) : IB (w.alloc (.cells #[.int .i64 k, .int .i64 n, .int .u64 x, .string s] 24)) w.heap.size k n x s := heap_alloc_new w _

theorem value_b (w0 : World) (k n : Int) (x : Nat) (s : ByteArray) (w : World) (hx : x < 18446744073709551616) (h : Below w0.heap.size w0 w) :
    Calls Try.prog 8 #[.agg #[.int .i64 k, .int .i64 n, .int .u64 x, .string s]] w fun e w' => e = .returned (.int .u64 (Rec.brought n x : Nat)) ∧ Below w0.heap.size w0 w' :=
  (value_any k n x s w hx).mono fun _ _ g => ⟨g.1, below_trans h g.2 h.size⟩
theorem num_b (w0 : World) (n : Int) (x : Nat) (w : World) (h : Below w0.heap.size w0 w) :
    Calls Try.prog 7 #[.int .u64 (Rec.brought n x : Nat), .int .i64 (Rec.wid n : Nat)] w fun e w' => ∃ g c, e = .returned (.tuple #[.slice (some ⟨g, 0, none⟩) (Rec.wid n) c, .int .i64 0]) ∧ Below w0.heap.size w0 w' ∧
      Hid (Owns w' w0.heap.size (.slice (some ⟨g, 0, none⟩) (Rec.wid n) c) (Rec.num (Rec.brought n x) (Rec.wid n))) := by
  refine (num_yes (Rec.brought n x) (Rec.wid n) w (brought_lt64 n x) (Rec.wid_lo n) (Rec.wid_hi n) (brought_lt n x)).mono ?_
  rintro e w1 ⟨v, rfl, ho, hb⟩
  obtain ⟨g, c, rfl, _⟩ := ho.form
  rw [Rec.num_length] at ho ⊢
  exact ⟨g, c, rfl, below_trans h hb h.size, ho.lower h.size⟩
/-- what a region finds of an item in memory -/
theorem item_held {w0 : World} {A : Nat} {k n : Int} {x : Nat} {s : ByteArray} (h : IB w0 A k n x s) : ∀ w', Below w0.heap.size w0 w' → w'.cell? ⟨A, 0, none⟩ = some (.int .i64 k) ∧ w'.cell? ⟨A, 1, none⟩ = some (.int .i64 n) ∧ w'.cell? ⟨A, 2, none⟩ = some (.int .u64 x) ∧ w'.cell? ⟨A, 3, none⟩ = some (.string s) ∧ Below w0.heap.size w0 w' := fun w' hb => by
  obtain ⟨h1, h2, h3, h4⟩ := (h.later hb).cells
  exact ⟨h1, h2, h3, h4, hb⟩

set_option maxHeartbeats 2000000 in
set_option maxRecDepth 8000 in
theorem apart_any (ka kb na nb : Int) (xa xb : Nat) (sa sb : ByteArray) (w : World) (hxa : xa < 18446744073709551616) (hxb : xb < 18446744073709551616) (hsa : sa.size ≤ 1048576) (hsb : sb.size ≤ 1048576) :
    Calls Try.prog 3 #[.agg #[.int .i64 ka, .int .i64 na, .int .u64 xa, .string sa], .agg #[.int .i64 kb, .int .i64 nb, .int .u64 xb, .string sb]] w fun e w' => e = .returned (.bool true) ∧ Below w.heap.size w w' := by
  go_enter Try.func3, Try.ntmps3
  go_wp2_with fail
  refine (fixed_any _).mono ?_
  rintro e w1 ⟨rfl, hb⟩
  have hiA : IB w1 w.heap.size ka na xa sa := ((ib_new w ka na xa sa).later ((Below.refl _ _).alloc (Nat.le_refl _) _)).later hb
  have hiB : IB w1 (w.heap.size + 1) kb nb xb sb := by
    have h := (ib_new (w.alloc (.cells #[.int .i64 ka, .int .i64 na, .int .u64 xa, .string sa] 24)) kb nb xb sb).later hb
    have e : (w.alloc (.cells #[.int .i64 ka, .int .i64 na, .int .u64 xa, .string sa] 24)).heap.size = w.heap.size + 1 := by simp
    rw [e] at h
    exact h
  have hb1 : Below w.heap.size w w1 := (((Below.refl _ _).alloc (Nat.le_refl _) _).alloc (by simp) _).trans (hb.mono (by simp; omega))
  have HIA : Hid (IB w1 w.heap.size ka na xa sa) := hiA
  have HIB : Hid (IB w1 (w.heap.size + 1) kb nb xb sb) := hiB
  have HB1 : Hid (Below w.heap.size w w1) := hb1
  obtain ⟨_, hA1, _, _⟩ := hiA.cells
  obtain ⟨_, hB1, _, _⟩ := hiB.cells
  have hBf := hiB.frozen 1
  clear hiA hiB hb1 hb
  go_wp2_with fail
  obtain ⟨w2, hw2⟩ : ∃ w2, w2 = w1.setCell ⟨w.heap.size + 1, 1, none⟩ (.int .i64 na) := ⟨_, rfl⟩
  rw [← hw2]
  have HIA2 : Hid (IB w2 w.heap.size ka na xa sa) := by rw [hw2]; exact HIA.out.other (by omega) 1 _
  have HIB2 : Hid (IB w2 (w.heap.size + 1) kb na xb sb) := by rw [hw2]; exact HIB.out.setN na
  have HB2 : Hid (Below w.heap.size w w2) := by rw [hw2]; exact HB1.out.setCell (by simp) _
  clear hw2 hA1 hB1 hBf HIA HIB HB1
  have G : Hid (∀ w', Below w2.heap.size w2 w' → _) := item_held HIA2.out
  go_cut [5, 6] (fun b e wx => ∃ g c, b = .slice (some ⟨g, 0, none⟩) (Rec.wid na) c ∧ e = .int .i64 0 ∧ Hid (Below w2.heap.size w2 wx) ∧ Hid (Owns wx w2.heap.size (.slice (some ⟨g, 0, none⟩) (Rec.wid na) c) (Rec.num (Rec.brought na xa) (Rec.wid na))))
  case first =>
    go_region_held3 (fun w' => w'.cell? ⟨w.heap.size, 0, none⟩ = some (.int .i64 ka) ∧ w'.cell? ⟨w.heap.size, 1, none⟩ = some (.int .i64 na) ∧ w'.cell? ⟨w.heap.size, 2, none⟩ = some (.int .u64 xa) ∧ w'.cell? ⟨w.heap.size, 3, none⟩ = some (.string sa) ∧ Below w2.heap.size w2 w')
      (first | exact G.out _ (by assumption) | exact G.out _ (Below.drew (by assumption)) | exact G.out _ (Below.refl _ _).drew | exact G.out _ (Below.refl _ _))
      (first
        | (go_at_call 8; refine (value_b w2 ka na xa sa _ hxa ?h).mono ?_; (case h => first | assumption | exact Below.drew (by assumption) | exact Below.refl _ _ | exact (Below.refl _ _).drew); rintro e w3 ⟨rfl, k5⟩)
        | (go_at_call 9; refine (width_any na _).mono ?_; rintro e w3 ⟨rfl, rfl⟩)
        | (go_at_call 7; refine (num_b w2 na xa _ ?h).mono ?_; (case h => first | assumption | exact Below.drew (by assumption) | exact Below.refl _ _ | exact (Below.refl _ _).drew); rintro e w3 ⟨g, c, rfl, k5, k6⟩))
    all_goals
      go_wp2_with fail
      go_meet
      case rel => exact ⟨g, c, rfl, rfl, k5, k6⟩
  case rest =>
  obtain ⟨gx, cx, rfl, rfl, k5, k6⟩ := hcut
  obtain ⟨w3, hw3⟩ : ∃ w3, w3 = wc := ⟨_, rfl⟩
  rw [← hw3] at k5 k6 ⊢
  have HIA3 : Hid (IB w3 w.heap.size ka na xa sa) := HIA2.out.later k5.out
  have HIB3 : Hid (IB w3 (w.heap.size + 1) kb na xb sb) := HIB2.out.later k5.out
  have HB3 : Hid (Below w.heap.size w w3) := below_trans HB2.out k5.out HB2.out.size
  have HX3 : Hid (Owns w3 w.heap.size (.slice (some ⟨gx, 0, none⟩) (Rec.wid na) cx) (Rec.num (Rec.brought na xa) (Rec.wid na))) := k6.out.lower HB2.out.size
  clear hw3 k5 k6 HIA2 HIB2 HB2 G
  have G : Hid (∀ w', Below w3.heap.size w3 w' → _) := item_held HIB3.out
  go_wp2_with fail
  go_cut [7, 8] (fun b e wx => ∃ g c, b = .slice (some ⟨g, 0, none⟩) (Rec.wid na) c ∧ e = .int .i64 0 ∧ Hid (Below w3.heap.size w3 wx) ∧ Hid (Owns wx w3.heap.size (.slice (some ⟨g, 0, none⟩) (Rec.wid na) c) (Rec.num (Rec.brought na xb) (Rec.wid na))))
  case first =>
    go_region_held3 (fun w' => w'.cell? ⟨w.heap.size + 1, 0, none⟩ = some (.int .i64 kb) ∧ w'.cell? ⟨w.heap.size + 1, 1, none⟩ = some (.int .i64 na) ∧ w'.cell? ⟨w.heap.size + 1, 2, none⟩ = some (.int .u64 xb) ∧ w'.cell? ⟨w.heap.size + 1, 3, none⟩ = some (.string sb) ∧ Below w3.heap.size w3 w')
      (first | exact G.out _ (by assumption) | exact G.out _ (Below.drew (by assumption)) | exact G.out _ (Below.refl _ _).drew | exact G.out _ (Below.refl _ _))
      (first
        | (go_at_call 8; refine (value_b w3 kb na xb sb _ hxb ?h).mono ?_; (case h => first | assumption | exact Below.drew (by assumption) | exact Below.refl _ _ | exact (Below.refl _ _).drew); rintro e w4 ⟨rfl, k5⟩)
        | (go_at_call 9; refine (width_any na _).mono ?_; rintro e w4 ⟨rfl, rfl⟩)
        | (go_at_call 7; refine (num_b w3 na xb _ ?h).mono ?_; (case h => first | assumption | exact Below.drew (by assumption) | exact Below.refl _ _ | exact (Below.refl _ _).drew); rintro e w4 ⟨g, c, rfl, k5, k6⟩))
    all_goals
      go_wp2_with fail
      go_meet
      case rel => exact ⟨g, c, rfl, rfl, k5, k6⟩
  case rest =>
  obtain ⟨gy, cy, rfl, rfl, k5, k6⟩ := hcut
  obtain ⟨w4, hw4⟩ : ∃ w4, w4 = wc := ⟨_, rfl⟩
  rw [← hw4] at k5 k6 ⊢
  have HIA4 : Hid (IB w4 w.heap.size ka na xa sa) := HIA3.out.later k5.out
  have HIB4 : Hid (IB w4 (w.heap.size + 1) kb na xb sb) := HIB3.out.later k5.out
  have HB4 : Hid (Below w.heap.size w w4) := below_trans HB3.out k5.out HB3.out.size
  have hX4 := (HX3.out.later k5.out).bytes.1
  have hY4 := k6.out.bytes.1
  obtain ⟨SX, hSX⟩ : ∃ SX, SX = strOfNums (Rec.num (Rec.brought na xa) (Rec.wid na)) := ⟨_, rfl⟩
  obtain ⟨SY, hSY⟩ : ∃ SY, SY = strOfNums (Rec.num (Rec.brought na xb) (Rec.wid na)) := ⟨_, rfl⟩
  have hne : Nonempty (Later w4) := ⟨⟨w4, Below.refl _ _⟩⟩
  have hc0 : ∀ u : Later w4, u.at_.cell? ⟨w.heap.size, 0, none⟩ = some (.int .i64 ka) := fun u => (HIA4.out.later u.below).cells.1
  have hc1 : ∀ u : Later w4, u.at_.cell? ⟨w.heap.size, 1, none⟩ = some (.int .i64 na) := fun u => (HIA4.out.later u.below).cells.2.1
  have hc2 : ∀ u : Later w4, u.at_.cell? ⟨w.heap.size, 2, none⟩ = some (.int .u64 xa) := fun u => (HIA4.out.later u.below).cells.2.2.1
  have hc3 : ∀ u : Later w4, u.at_.cell? ⟨w.heap.size, 3, none⟩ = some (.string sa) := fun u => (HIA4.out.later u.below).cells.2.2.2
  have hc4 : ∀ u : Later w4, u.at_.cell? ⟨w.heap.size + 1, 0, none⟩ = some (.int .i64 kb) := fun u => (HIB4.out.later u.below).cells.1
  have hc5 : ∀ u : Later w4, u.at_.cell? ⟨w.heap.size + 1, 1, none⟩ = some (.int .i64 na) := fun u => (HIB4.out.later u.below).cells.2.1
  have hc6 : ∀ u : Later w4, u.at_.cell? ⟨w.heap.size + 1, 2, none⟩ = some (.int .u64 xb) := fun u => (HIB4.out.later u.below).cells.2.2.1
  have hc7 : ∀ u : Later w4, u.at_.cell? ⟨w.heap.size + 1, 3, none⟩ = some (.string sb) := fun u => (HIB4.out.later u.below).cells.2.2.2
  have hvx : ∀ u : Later w4, (convert 26 9 (.slice (some ⟨gx, 0, none⟩) (Rec.wid na) cx)).run Try.prog u.at_ = .ok (.string SX) u.at_ := fun u => by rw [hSX]; exact conv_string _ _ _ cx _ (Rec.num_length _ _).symm (bytesAt_later u.below hX4)
  have hvy : ∀ u : Later w4, (convert 26 9 (.slice (some ⟨gy, 0, none⟩) (Rec.wid na) cy)).run Try.prog u.at_ = .ok (.string SY) u.at_ := fun u => by rw [hSY]; exact conv_string _ _ _ cy _ (Rec.num_length _ _).symm (bytesAt_later u.below hY4)
  have HQ : Hid ((SX.toList == SY.toList) = decide (Rec.brought na xa = Rec.brought na xb)) := by
    show _ = _
    rw [beq_bytes, decide_eq_decide]
    constructor
    · intro h
      rw [hSX, hSY] at h
      exact Rec.num_inj (brought_lt na xa) (brought_lt na xb) (strOf_inj (Rec.num_bs _ _) (Rec.num_bs _ _) h)
    · intro h
      rw [hSX, hSY, h]
  clear hSX hSY hX4 hY4 hw4 k5 k6 HIA3 HIB3 HB3 HX3
  go_wp2_with fail
  go_cut [56] (fun b wx => b = .bool false ∧ Hid (Below w4.heap.size w4 wx))
  case first =>
    all_goals
      refine wp_region_later (by kernel_rfl) (by kernel_rfl) ?_
      repeat (first
        | go_big_quiet_step (first
          | (go_at_call_of 8 (Value.agg #[.int .i64 ka, .int .i64 na, .int .u64 xa, .string sa]); exact calls_later (value_any ka na xa sa _ hxa))
          | (go_at_call_of 8 (Value.agg #[.int .i64 kb, .int .i64 na, .int .u64 xb, .string sb]); exact calls_later (value_any kb na xb sb _ hxb)))
        | quiet_step (first
          | (go_at_call_of 8 (Value.agg #[.int .i64 ka, .int .i64 na, .int .u64 xa, .string sa]); exact calls_later (value_any ka na xa sa _ hxa))
          | (go_at_call_of 8 (Value.agg #[.int .i64 kb, .int .i64 na, .int .u64 xb, .string sb]); exact calls_later (value_any kb na xb sb _ hxb))))
      refine wpQuiet_nil ?_
      intro _ hw'
      obtain ⟨u, hw''⟩ := hw'
      subst hw''
      go_wp2_with fail
      go_meet
      case rel => exact ⟨by simp; rw [HQ.out, int_beq], u.below⟩
  case rest =>
  clear hc0 hc1 hc2 hc3 hc4 hc5 hc6 hc7 hvx hvy hne HQ
  obtain ⟨rfl, k5⟩ := hcut
  obtain ⟨w5, hw5⟩ : ∃ w5, w5 = wc := ⟨_, rfl⟩
  rw [← hw5] at k5 ⊢
  have HIA5 : Hid (IB w5 w.heap.size ka na xa sa) := HIA4.out.later k5.out
  have HIB5 : Hid (IB w5 (w.heap.size + 1) kb na xb sb) := HIB4.out.later k5.out
  have HB5 : Hid (Below w.heap.size w w5) := below_trans HB4.out k5.out HB4.out.size
  clear hw5 k5 HIA4 HIB4 HB4
  have hc3 := HIA5.out.cells.2.2.2
  go_wp2_with fail
  refine (text_any sa _ hsa).mono ?_
  rintro e w6 ⟨v6, rfl, ho6, hb6⟩
  obtain ⟨gs, cs, rfl, _⟩ := ho6.form
  rw [Rec.text_length] at ho6 ⊢
  obtain ⟨S, hS⟩ : ∃ S, S = strOfNums (Rec.text sa) := ⟨_, rfl⟩
  have hcv6 := conv_string w6 (some ⟨gs, 0, none⟩) (4 + sa.size) cs (Rec.text sa) (Rec.text_length sa).symm ho6.bytes.1
  rw [← hS] at hcv6
  have HIA6 : Hid (IB w6 w.heap.size ka na xa sa) := HIA5.out.later hb6
  have HIB6 : Hid (IB w6 (w.heap.size + 1) kb na xb sb) := HIB5.out.later hb6
  have HB6 : Hid (Below w.heap.size w w6) := below_trans HB5.out hb6 HB5.out.size
  have HS : Hid (S = strOfNums (Rec.text sa)) := hS
  have hc7 := HIB6.out.cells.2.2.2
  clear hS ho6 hb6 HIA5 HIB5 HB5 hc3
  go_wp2_with fail
  refine (text_any sb _ hsb).mono ?_
  rintro e w7 ⟨v7, rfl, ho7, hb7⟩
  obtain ⟨gt, ct, rfl, _⟩ := ho7.form
  rw [Rec.text_length] at ho7 ⊢
  obtain ⟨T, hT⟩ : ∃ T, T = strOfNums (Rec.text sb) := ⟨_, rfl⟩
  have hcv7 := conv_string w7 (some ⟨gt, 0, none⟩) (4 + sb.size) ct (Rec.text sb) (Rec.text_length sb).symm ho7.bytes.1
  rw [← hT] at hcv7
  have HIA7 : Hid (IB w7 w.heap.size ka na xa sa) := HIA6.out.later hb7
  have HIB7 : Hid (IB w7 (w.heap.size + 1) kb na xb sb) := HIB6.out.later hb7
  have HB7 : Hid (Below w.heap.size w w7) := below_trans HB6.out hb7 HB6.out.size
  have hzS : S.size = 4 + sa.size := by rw [HS.out, strOfNums_size, Rec.text_length]
  have hzT : T.size = 4 + sb.size := by rw [hT, strOfNums_size, Rec.text_length]
  have HQ : Hid (S.size ≤ T.size → ((T.extract 0 S.size).toList == S.toList) = decide (sa = sb)) := by
    intro hle
    rw [beq_bytes, decide_eq_decide]
    constructor
    · intro h
      have h1 := congrArg Rec.str h
      rw [str_extract, HS.out, hT, str_strOf (Rec.text_bs _), str_strOf (Rec.text_bs _), strOfNums_size, Rec.text_length] at h1
      exact text_apart (by omega) (by omega) h1
    · intro h
      rw [HS.out, hT, h, strOfNums_size]
      have e : Rec.str ((strOfNums (Rec.text sb)).extract 0 (Rec.text sb).length) = Rec.str (strOfNums (Rec.text sb)) := by
        rw [str_extract, str_strOf (Rec.text_bs _), List.take_length]
      exact Rec.str_inj e
  have HQ2 : Hid (T.size < S.size → sa ≠ sb) := by
    intro hlt e
    rw [hzS, hzT, e] at hlt
    omega
  have hc3 := HIA7.out.cells.2.2.2
  have hc7b := HIB7.out.cells.2.2.2
  have hc1 := HIA7.out.cells.2.1
  have heq := beq_bytes sa sb
  clear hT HS ho7 hb7 HIA6 HIB6 HB6 hcv6 hc7 hzS hzT
  go_upto_region 10 with fail
  go_cut [11] (fun b wx => b = .bool (decide (sa = sb)) ∧ w7 = wx)
  case first =>
    by_cases hle : S.size ≤ T.size
    · have hq := HQ.out hle
      go_wp2_with fail
      all_goals
        go_meet
        case rel => exact ⟨by first | rfl | (simp [hq]; done) | (simp; done), rfl⟩
    · have hlt : T.size < S.size := by omega
      have hne := HQ2.out hlt
      go_wp2_with fail
      all_goals
        go_meet
        case rel => exact ⟨by simp [hne], rfl⟩
  case rest =>
  obtain ⟨rfl, rfl⟩ := hcut
  clear HQ HQ2 hcv7
  have h1 := Rec.wid_lo na
  have h8 := Rec.wid_hi na
  have hbl := brought_lt na xa
  go_upto_region 13 with fail
  by_cases he : Rec.wid na = 8
  · go_wp2_with fail
    refine (width_any na _).mono ?_
    rintro e w8 ⟨rfl, rfl⟩
    rw [he]
    go_wp2
    go_ret
    exact ⟨rfl, HB7.out⟩
  · obtain ⟨W, hW⟩ : ∃ W, W = Rec.wid na := ⟨_, rfl⟩
    have HW : Hid (W = Rec.wid na) := hW
    rw [← hW] at h1 h8 he hbl
    have hlt : W < 8 := by omega
    have hwp := wrap_pow W hlt
    have hM7 : 256 ^ W ≤ 256 ^ 7 := Rec.pow_le (by omega)
    obtain ⟨M, hM⟩ : ∃ M, M = 256 ^ W := ⟨_, rfl⟩
    rw [← hM] at hwp hM7 hbl
    have hMb : M ≤ 72057594037927936 := hM7
    have HM : Hid (M = 256 ^ W) := hM
    obtain ⟨V, hV⟩ : ∃ V, V = Rec.brought na xa := ⟨_, rfl⟩
    have HV : Hid (V = Rec.brought na xa) := hV
    rw [← hV] at hbl
    have hne : Nonempty (Later w7) := ⟨⟨w7, Below.refl _ _⟩⟩
    have hc0 : ∀ u : Later w7, u.at_.cell? ⟨w.heap.size, 0, none⟩ = some (.int .i64 ka) := fun u => (HIA7.out.later u.below).cells.1
    have hd1 : ∀ u : Later w7, u.at_.cell? ⟨w.heap.size, 1, none⟩ = some (.int .i64 na) := fun u => (HIA7.out.later u.below).cells.2.1
    have hd2 : ∀ u : Later w7, u.at_.cell? ⟨w.heap.size, 2, none⟩ = some (.int .u64 xa) := fun u => (HIA7.out.later u.below).cells.2.2.1
    have hd3 : ∀ u : Later w7, u.at_.cell? ⟨w.heap.size, 3, none⟩ = some (.string sa) := fun u => (HIA7.out.later u.below).cells.2.2.2
    have HCV : Hid (∀ u, Calls Try.prog 8 #[.agg #[.int .i64 ka, .int .i64 na, .int .u64 xa, .string sa]] u fun e w' => e = .returned (.int .u64 (V : Nat)) ∧ Below u.heap.size u w') := fun u => by rw [hV]; exact value_any ka na xa sa u hxa
    clear hW hM hV hM7 h8 he
    go_wp2_with fail
    refine (width_any na _).mono ?_
    rintro e w8 ⟨rfl, rfl⟩
    rw [← HW.out]
    go_wp2_with fail
    refine wp_region_later (by kernel_rfl) (by kernel_rfl) ?_
    repeat (first
      | go_big_quiet_step (first
        | (go_at_call 8; exact calls_later (HCV.out _))
        | (go_at_call 7; exact calls_later_same (num_over V M W _ HM.out)))
      | quiet_step (first
        | (go_at_call 8; exact calls_later (HCV.out _))
        | (go_at_call 7; exact calls_later_same (num_over V M W _ HM.out))))
    refine wpQuiet_nil ?_
    intro _ hw'
    obtain ⟨u, hw''⟩ := hw'
    subst hw''
    go_wp2
    go_ret
    exact ⟨rfl, below_trans HB7.out u.below HB7.out.size⟩
end Go.Proofs.Ytfncocffnfebbaa
