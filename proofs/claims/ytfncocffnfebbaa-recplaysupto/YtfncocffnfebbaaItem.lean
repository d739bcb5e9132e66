/- The contracts of heronlaw02.Item's laid and taken. -/
import Derived.Test.YtfncocffnfebbaaFixed
import Derived.Deep.RegionHeld3
import Derived.Deep.DrawnRows
import Derived.Deep.DeepCutAuto
namespace Go.Proofs.Ytfncocffnfebbaa
open Go.RowKit
attribute [local go_sem ↓] Go.wp_at_zero Go.wp_at_succ

/-- an item's four cells in a block -/
def ItemAt (w : World) (A : Nat) (k n : Int) (x : Nat) (s : ByteArray) : Prop :=
  w.cell? ⟨A, 0, none⟩ = some (.int .i64 k) ∧ w.cell? ⟨A, 1, none⟩ = some (.int .i64 n) ∧ w.cell? ⟨A, 2, none⟩ = some (.int .u64 x) ∧ w.cell? ⟨A, 3, none⟩ = some (.string s)
theorem ItemAt.later {w w' : World} {A : Nat} {k n : Int} {x : Nat} {s : ByteArray} (h : ItemAt w A k n x s) (hb : Below w.heap.size w w') : ItemAt w' A k n x s := by
  obtain ⟨h1, h2, h3, h4⟩ := h
  have hA : A < w.heap.size := World.block_lt_of_cell? w _ h1
  exact ⟨(hb.cell (p := ⟨A, 0, none⟩) hA).trans h1, (hb.cell (p := ⟨A, 1, none⟩) hA).trans h2, (hb.cell (p := ⟨A, 2, none⟩) hA).trans h3, (hb.cell (p := ⟨A, 3, none⟩) hA).trans h4⟩
theorem itemAt_new (w : World) (k n : Int) (x : Nat) (s : ByteArray) (t : TypeId) : ItemAt (w.alloc (.cells #[.int .i64 k, .int .i64 n, .int .u64 x, .string s] t)) w.heap.size k n x s := by
  refine ⟨?_, ?_, ?_, ?_⟩ <;> rw [World.cell?_alloc_mark] <;> rfl

theorem brought_lt (n : Int) (x : Nat) : Rec.brought n x < 256 ^ Rec.wid n := Nat.mod_lt _ (Nat.pow_pos (by decide))
theorem brought_lt64 (n : Int) (x : Nat) : Rec.brought n x < 18446744073709551616 := by
  have := brought_lt n x
  have h := Rec.pow_le (Rec.wid_hi n)
  rw [Rec.pow8] at h
  omega

/-- value, width, Num: what each leaves of an item in memory -/
theorem value_item (w0 : World) (A : Nat) (k n : Int) (x : Nat) (s : ByteArray) (w : World) (hx : x < 18446744073709551616)
    (h : w.cell? ⟨A, 0, none⟩ = some (.int .i64 k) ∧ w.cell? ⟨A, 1, none⟩ = some (.int .i64 n) ∧ w.cell? ⟨A, 2, none⟩ = some (.int .u64 x) ∧ w.cell? ⟨A, 3, none⟩ = some (.string s) ∧ Below w0.heap.size w0 w) :
    Calls Try.prog 8 #[.agg #[.int .i64 k, .int .i64 n, .int .u64 x, .string s]] w fun e w' => e = .returned (.int .u64 (Rec.brought n x : Nat)) ∧
      w'.cell? ⟨A, 0, none⟩ = some (.int .i64 k) ∧ w'.cell? ⟨A, 1, none⟩ = some (.int .i64 n) ∧ w'.cell? ⟨A, 2, none⟩ = some (.int .u64 x) ∧ w'.cell? ⟨A, 3, none⟩ = some (.string s) ∧ Below w0.heap.size w0 w' := by
  obtain ⟨h1, h2, h3, h4, h5⟩ := h
  refine (value_any k n x s w hx).mono ?_
  rintro e w1 ⟨rfl, hb⟩
  obtain ⟨g1, g2, g3, g4⟩ := ItemAt.later (w' := w1) (⟨h1, h2, h3, h4⟩ : ItemAt w A k n x s) hb
  exact ⟨rfl, g1, g2, g3, g4, below_trans h5 hb h5.size⟩
theorem num_item (w0 : World) (A : Nat) (k n : Int) (x : Nat) (s : ByteArray) (w : World)
    (h : w.cell? ⟨A, 0, none⟩ = some (.int .i64 k) ∧ w.cell? ⟨A, 1, none⟩ = some (.int .i64 n) ∧ w.cell? ⟨A, 2, none⟩ = some (.int .u64 x) ∧ w.cell? ⟨A, 3, none⟩ = some (.string s) ∧ Below w0.heap.size w0 w) :
    Calls Try.prog 7 #[.int .u64 (Rec.brought n x : Nat), .int .i64 (Rec.wid n : Nat)] w fun e w' => ∃ g c, e = .returned (.tuple #[.slice (some ⟨g, 0, none⟩) (Rec.wid n) c, .int .i64 0]) ∧
      w'.cell? ⟨A, 0, none⟩ = some (.int .i64 k) ∧ w'.cell? ⟨A, 1, none⟩ = some (.int .i64 n) ∧ w'.cell? ⟨A, 2, none⟩ = some (.int .u64 x) ∧ w'.cell? ⟨A, 3, none⟩ = some (.string s) ∧ Below w0.heap.size w0 w' ∧
      Hid (Owns w' w0.heap.size (.slice (some ⟨g, 0, none⟩) (Rec.wid n) c) (Rec.num (Rec.brought n x) (Rec.wid n))) := by
  obtain ⟨h1, h2, h3, h4, h5⟩ := h
  refine (num_yes (Rec.brought n x) (Rec.wid n) w (brought_lt64 n x) (Rec.wid_lo n) (Rec.wid_hi n) (brought_lt n x)).mono ?_
  rintro e w1 ⟨v, rfl, ho, hb⟩
  obtain ⟨g1, g2, g3, g4⟩ := ItemAt.later (w' := w1) (⟨h1, h2, h3, h4⟩ : ItemAt w A k n x s) hb
  obtain ⟨g, c, rfl, _⟩ := ho.form
  rw [Rec.num_length] at ho ⊢
  exact ⟨g, c, rfl, g1, g2, g3, g4, below_trans h5 hb h5.size, ho.lower h5.size⟩

set_option maxHeartbeats 1000000 in
theorem laid_num (n : Int) (x : Nat) (s : ByteArray) (w : World) (hx : x < 18446744073709551616) :
    Calls Try.prog 11 #[.agg #[.int .i64 0, .int .i64 n, .int .u64 x, .string s]] w fun e w' => ∃ v, e = .returned (.tuple #[v, .bool true]) ∧ Owns w' w.heap.size v (Rec.num (Rec.brought n x) (Rec.wid n)) ∧ Below w.heap.size w w' := by
  have hb0 : Below w.heap.size w (w.alloc (.cells #[.int .i64 0, .int .i64 n, .int .u64 x, .string s] 24)) := (Below.refl _ _).alloc (Nat.le_refl _) _
  go_enter Try.func11, Try.ntmps11
  go_wp2
  go_cut [4, 5] (fun b e wx => ∃ g c, b = .slice (some ⟨g, 0, none⟩) (Rec.wid n) c ∧ e = .int .i64 0 ∧ wx.cell? ⟨w.heap.size, 0, none⟩ = some (.int .i64 0) ∧ wx.cell? ⟨w.heap.size, 1, none⟩ = some (.int .i64 n) ∧ wx.cell? ⟨w.heap.size, 2, none⟩ = some (.int .u64 x) ∧ wx.cell? ⟨w.heap.size, 3, none⟩ = some (.string s) ∧ Below w.heap.size w wx ∧ Hid (Owns wx w.heap.size (.slice (some ⟨g, 0, none⟩) (Rec.wid n) c) (Rec.num (Rec.brought n x) (Rec.wid n))))
  case first =>
    go_region_held3 (fun w' => w'.cell? ⟨w.heap.size, 0, none⟩ = some (.int .i64 0) ∧ w'.cell? ⟨w.heap.size, 1, none⟩ = some (.int .i64 n) ∧ w'.cell? ⟨w.heap.size, 2, none⟩ = some (.int .u64 x) ∧ w'.cell? ⟨w.heap.size, 3, none⟩ = some (.string s) ∧ Below w.heap.size w w')
      (refine ⟨?_, ?_, ?_, ?_, ?_⟩ <;> first | assumption | exact Below.drew (by assumption) | (simp [*]; done))
      (first
        | (go_at_call 8; refine (value_item w w.heap.size 0 n x s _ hx ?h).mono ?_; (case h => (refine ⟨?_, ?_, ?_, ?_, ?_⟩ <;> first | assumption | exact Below.drew (by assumption) | (simp [*]; done))); rintro e w1 ⟨rfl, k1, k2, k3, k4, k5⟩)
        | (go_at_call 9; refine (width_any n _).mono ?_; rintro e w2 ⟨rfl, rfl⟩)
        | (go_at_call 7; refine (num_item w w.heap.size 0 n x s _ ?h).mono ?_; (case h => (refine ⟨?_, ?_, ?_, ?_, ?_⟩ <;> first | assumption | exact Below.drew (by assumption) | (simp [*]; done))); rintro e w1 ⟨g, c, rfl, k1, k2, k3, k4, k5, k6⟩))
    all_goals
      go_wp2_with fail
      go_meet
      case rel => exact ⟨g, c, rfl, rfl, k1, k2, k3, k4, k5, k6⟩
  case rest =>
    obtain ⟨g, c, rfl, rfl, k1, k2, k3, k4, k5, k6⟩ := hcut
    have K5 : Hid (Below w.heap.size w wc) := k5
    clear k5 hb0
    go_wp2_with fail
    refine (width_any n _).mono ?_
    rintro e w2 ⟨rfl, rfl⟩
    go_wp2
    go_ret2
    exact ⟨_, rfl, k6.out, K5.out⟩

set_option maxHeartbeats 400000 in
theorem laid_text (n : Int) (x : Nat) (s : ByteArray) (w : World) (hs : s.size ≤ 1048576) :
    Calls Try.prog 11 #[.agg #[.int .i64 1, .int .i64 n, .int .u64 x, .string s]] w fun e w' => ∃ v, e = .returned (.tuple #[v, .bool true]) ∧ Owns w' w.heap.size v (Rec.text s) ∧ Below w.heap.size w w' := by
  go_enter Try.func11, Try.ntmps11
  go_wp2_with fail
  refine (text_any s _ hs).mono ?_
  rintro e w1 ⟨v, rfl, ho, hb⟩
  obtain ⟨g, c, rfl, _⟩ := ho.form
  rw [Rec.text_length] at ho ⊢
  have hb1 : Below w.heap.size w w1 := ((Below.refl _ _).alloc (Nat.le_refl _) _).trans (hb.mono (by simp))
  have HB1 : Hid (Below w.heap.size w w1) := hb1
  have HO1 : Hid (Owns w1 w.heap.size (.slice (some ⟨g, 0, none⟩) (4 + s.size) c) (Rec.text s)) := ho.lower (by simp)
  obtain ⟨_, _, _, k4⟩ := (itemAt_new w 1 n x s 24).later hb
  clear hb hb1 ho
  go_wp2
  go_quiet (fail)
  go_wp2
  go_ret2
  exact ⟨_, rfl, HO1.out.later (below_drewN (Below.refl _ _) _), below_drewN HB1.out _⟩
end Go.Proofs.Ytfncocffnfebbaa
