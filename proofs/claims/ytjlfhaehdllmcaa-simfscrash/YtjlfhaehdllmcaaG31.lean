/- heronlaw14: begins, grown. -/
import Derived.Test.YtjlfhaehdllmcaaG30
namespace Go.Proofs.Ytjlfhaehdllmcaa
open Go.RowKit Go.Maps Sf
attribute [local go_sem ↓] Go.wp_at_zero Go.wp_at_succ

/-- a text begins so -/
def Beg (s t : ByteArray) : Prop := s.size ≤ t.size ∧ t.extract 0 s.size = s
set_option maxRecDepth 8000 in
theorem begins_true {s t : ByteArray} (h : Beg s t) (w : World) : Calls Try.prog 14 #[.string s, .string t] w fun e w' => e = .returned (.bool true) ∧ w' = w := by
  obtain ⟨h1, h2⟩ := h
  have h1' : (s.size : Int) ≤ (t.size : Int) := by omega
  have hb : ((t.extract 0 s.size).toList == s.toList) = true := by rw [beq_bytes, decide_eq_true h2]
  clear h2
  go_enter Try.func14, Try.ntmps14
  go_wp2
  go_ret
  exact ⟨rfl, rfl⟩
/-- what is told of an inode, and its bytes -/
structure Fl where
  i : Nat
  s : Nat
  g : Nat
  z : Nat
  b : ByteArray
def Fl.cells (f : Fl) : List Value := [.int .i64 (f.i : Nat), .int .i64 (f.s : Nat), .int .i64 (f.g : Nat), .int .i64 (f.z : Nat), .string f.b]
def Fl.zero : Fl := ⟨0, 0, 0, 0, ⟨#[]⟩⟩
structure Fl.Ok (f : Fl) : Prop where
  g : f.g ≤ 2000000
  i : f.i ≤ 2000000
  s : f.s ≤ 2000000
  z : f.z ≤ 1048576
  b : f.b.size ≤ 1048576
def Grows (a b : Fl) : Prop := (b.i = 0) ∨ (a.i ≠ 0 ∧ b.i ≠ 0 ∧ (a.g < b.g ∨ (b.g = a.g ∧ Beg a.b b.b)))
set_option maxRecDepth 8000 in
set_option maxHeartbeats 800000 in
theorem grown_true {a b : Fl} (h : Grows a b) (ha : a.Ok) (hb : b.Ok) (w : World) : Calls Try.prog 10 #[.agg a.cells.toArray, .agg b.cells.toArray] w fun e w' => e = .returned (.bool true) ∧ Below w.heap.size w w' := by
  obtain ⟨ai, asr, ag, az, ab⟩ := a
  obtain ⟨bi, bs, bg, bz, bb⟩ := b
  have g1 := ha.g
  have g2 := hb.g
  have g3 := ha.i
  have g4 := hb.i
  have g5 := hb.b
  simp only at g1 g2 g3 g4 g5
  unfold Fl.cells
  unfold Grows at h
  simp only at h ⊢
  obtain ⟨A, hA⟩ : ∃ A, w.heap.size = A := ⟨_, rfl⟩
  obtain ⟨w1, hw1⟩ : ∃ w1, w.alloc (.cells #[.int .i64 (ai : Nat), .int .i64 (asr : Nat), .int .i64 (ag : Nat), .int .i64 (az : Nat), .string ab] 40) = w1 := ⟨_, rfl⟩
  obtain ⟨w2, hw2⟩ : ∃ w2, w1.alloc (.cells #[.int .i64 (bi : Nat), .int .i64 (bs : Nat), .int .i64 (bg : Nat), .int .i64 (bz : Nat), .string bb] 40) = w2 := ⟨_, rfl⟩
  have z1 : w1.heap.size = A + 1 := by rw [← hw1, ← hA]; simp
  have k1 : Below w.heap.size w w1 := by rw [← hw1]; exact (Below.refl _ _).alloc (Nat.le_refl _) _
  have k2 : Below w1.heap.size w1 w2 := by rw [← hw2]; exact (Below.refl _ _).alloc (Nat.le_refl _) _
  have ba : w2.heap[A]? = some (.cells #[.int .i64 (ai : Nat), .int .i64 (asr : Nat), .int .i64 (ag : Nat), .int .i64 (az : Nat), .string ab] 40 (0, 0)) := by
    have h := heap_alloc_new w (.cells #[.int .i64 (ai : Nat), .int .i64 (asr : Nat), .int .i64 (ag : Nat), .int .i64 (az : Nat), .string ab] 40)
    rw [hw1, hA] at h
    exact (k2.block A (by omega)).trans h
  have bb2 : w2.heap[A + 1]? = some (.cells #[.int .i64 (bi : Nat), .int .i64 (bs : Nat), .int .i64 (bg : Nat), .int .i64 (bz : Nat), .string bb] 40 (0, 0)) := by
    have h := heap_alloc_new w1 (.cells #[.int .i64 (bi : Nat), .int .i64 (bs : Nat), .int .i64 (bg : Nat), .int .i64 (bz : Nat), .string bb] 40)
    rw [hw2, z1] at h
    exact h
  have a0 : w2.cell? ⟨A, 0, none⟩ = some (.int .i64 (ai : Nat)) := by simp [World.cell?, ba]
  have a2 : w2.cell? ⟨A, 2, none⟩ = some (.int .i64 (ag : Nat)) := by simp [World.cell?, ba]
  have a4 : w2.cell? ⟨A, 4, none⟩ = some (.string ab) := by simp [World.cell?, ba]
  have b0 : w2.cell? ⟨A + 1, 0, none⟩ = some (.int .i64 (bi : Nat)) := by simp [World.cell?, bb2]
  have b2 : w2.cell? ⟨A + 1, 2, none⟩ = some (.int .i64 (bg : Nat)) := by simp [World.cell?, bb2]
  have b4 : w2.cell? ⟨A + 1, 4, none⟩ = some (.string bb) := by simp [World.cell?, bb2]
  have HK : Hid (Below w.heap.size w w2) := below_step k1 k2
  have HW : Hid (w.alloc (.cells #[.int .i64 (ai : Nat), .int .i64 (asr : Nat), .int .i64 (ag : Nat), .int .i64 (az : Nat), .string ab] 40) = w1 ∧ w1.alloc (.cells #[.int .i64 (bi : Nat), .int .i64 (bs : Nat), .int .i64 (bg : Nat), .int .i64 (bz : Nat), .string bb] 40) = w2 ∧ w.heap.size = A ∧ w1.heap.size = A + 1) := ⟨hw1, hw2, hA, z1⟩
  clear hw1 hw2 hA z1 k1 k2 ba bb2 ha hb
  by_cases hbi : bi = 0
  · have hb0 : ((bi : Int) == 0) = true := by simp; omega
    by_cases hai : ai = 0
    · have ha0 : ((ai : Int) == 0) = true := by simp; omega
      clear hai hbi h
      go_enter Try.func10, Try.ntmps10
      go_upto_region 1 with fail
      rw [HW.out.1, HW.out.2.2.1, HW.out.2.1]
      go_wp2
      go_ret
      exact ⟨rfl, HK.out⟩
    · have hd : ((ai : Int) == 0) = false := by simp; omega
      clear hai hbi h
      go_enter Try.func10, Try.ntmps10
      go_upto_region 1 with fail
      rw [HW.out.1, HW.out.2.2.1, HW.out.2.1]
      go_wp2
      go_ret
      exact ⟨rfl, HK.out⟩
  · have h := h.resolve_left hbi
    have hd : ((ai : Int) == 0) = false := by simp; omega
    have hd2 : ((bi : Int) == 0) = false := by simp; omega
    rcases h.2.2 with hg | ⟨hg, hbeg⟩
    · have hg' : (ag : Int) < (bg : Int) := by omega
      go_enter Try.func10, Try.ntmps10
      go_upto_region 1 with fail
      rw [HW.out.1, HW.out.2.2.1, HW.out.2.1]
      go_wp2
      go_ret
      exact ⟨rfl, HK.out⟩
    · subst hg
      have HC : Hid (Calls Try.prog 14 #[.string ab, .string bb] w2 _) := begins_true hbeg w2
      go_enter Try.func10, Try.ntmps10
      go_upto_region 1 with fail
      rw [HW.out.1, HW.out.2.2.1, HW.out.2.1]
      go_wp2_with fail
      refine HC.out.mono ?_
      rintro e w3 ⟨rfl, rfl⟩
      clear HC
      go_wp2
      go_ret
      exact ⟨rfl, HK.out⟩
end Go.Proofs.Ytjlfhaehdllmcaa
