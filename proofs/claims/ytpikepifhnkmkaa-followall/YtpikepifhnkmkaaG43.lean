/- follow: Mark, Held (typed by gen/fomk.py). -/
import Derived.Test.YtpikepifhnkmkaaG41
import Derived.Test.YtpikepifhnkmkaaG42
namespace Go.Proofs.Ytpikepifhnkmkaa
open Go.RowKit Go.Maps Sf Ln Fo
attribute [local go_sem ↓] Go.wp_at_zero Go.wp_at_succ

theorem below_set' {w u : World} (h : Below w.heap.size w u) {z : Nat} (hz : w.heap.size ≤ z) (j : Nat) (v : Value) : Below w.heap.size w (u.setCell ⟨z, j, none⟩ v) := h.setCell hz _
/-- the cells of a mark -/
def MkBx (u : World) (z : Nat) (m : Mrk) : Prop := u.heap[z]? = some (.cells (mkC m).toArray 37 (0, 0))
def zeroM : Mrk := ⟨0, 0, 0, 0, 0, 0, 0, 0, 0⟩
theorem mk_set {w w1 : World} {z : Nat} (hst : w1.heap[z]? = some (.cells #[.int .i64 0, .int .i64 0, .int .i64 0, .int .i64 0, .int .i64 0, .int .i64 0, .int .i64 0, .int .i64 0, .int .i64 0] 37 (0, 0))) (k1 : Below w.heap.size w w1) (hz : w.heap.size ≤ z) (m : Mrk) :
    MkBx (((((((((w1.setCell ⟨z, 0, none⟩ (.int .i64 m.s)).setCell ⟨z, 1, none⟩ (.int .i64 m.n)).setCell ⟨z, 2, none⟩ (.int .i64 m.g)).setCell ⟨z, 3, none⟩ (.int .i64 m.o)).setCell ⟨z, 4, none⟩ (.int .i64 m.ms)).setCell ⟨z, 5, none⟩ (.int .i64 m.gn)).setCell ⟨z, 6, none⟩ (.int .i64 m.ct)).setCell ⟨z, 7, none⟩ (.int .i64 m.tl)).setCell ⟨z, 8, none⟩ (.int .i64 m.lg)) z m ∧ Below w.heap.size w (((((((((w1.setCell ⟨z, 0, none⟩ (.int .i64 m.s)).setCell ⟨z, 1, none⟩ (.int .i64 m.n)).setCell ⟨z, 2, none⟩ (.int .i64 m.g)).setCell ⟨z, 3, none⟩ (.int .i64 m.o)).setCell ⟨z, 4, none⟩ (.int .i64 m.ms)).setCell ⟨z, 5, none⟩ (.int .i64 m.gn)).setCell ⟨z, 6, none⟩ (.int .i64 m.ct)).setCell ⟨z, 7, none⟩ (.int .i64 m.tl)).setCell ⟨z, 8, none⟩ (.int .i64 m.lg)) := by
  refine ⟨?_, (below_set' (below_set' (below_set' (below_set' (below_set' (below_set' (below_set' (below_set' (below_set' k1 hz 0 _) hz 1 _) hz 2 _) hz 3 _) hz 4 _) hz 5 _) hz 6 _) hz 7 _) hz 8 _)⟩
  unfold MkBx
  rw [heap_set (heap_set (heap_set (heap_set (heap_set (heap_set (heap_set (heap_set (heap_set hst 0 (.int .i64 m.s)) 1 (.int .i64 m.n)) 2 (.int .i64 m.g)) 3 (.int .i64 m.o)) 4 (.int .i64 m.ms)) 5 (.int .i64 m.gn)) 6 (.int .i64 m.ct)) 7 (.int .i64 m.tl)) 8 (.int .i64 m.lg)]
  simp [mkC]
theorem mark_res {tmps : Array Value} {u : World} {z : Nat} {m : Mrk} (h2 : tmps[2]?.getD undef = .pointer (some ⟨z, 0, none⟩)) (h : MkBx u z m) : (results Try.f13 tmps).run Try.prog u = .ok (mrkBox m) u := by
  have c0 : u.cell? ⟨z, 0, none⟩ = some (.int .i64 m.s) := by simp [World.cell?, show u.heap[z]? = _ from h, mkC]
  have c1 : u.cell? ⟨z, 1, none⟩ = some (.int .i64 m.n) := by simp [World.cell?, show u.heap[z]? = _ from h, mkC]
  have c2 : u.cell? ⟨z, 2, none⟩ = some (.int .i64 m.g) := by simp [World.cell?, show u.heap[z]? = _ from h, mkC]
  have c3 : u.cell? ⟨z, 3, none⟩ = some (.int .i64 m.o) := by simp [World.cell?, show u.heap[z]? = _ from h, mkC]
  have c4 : u.cell? ⟨z, 4, none⟩ = some (.int .i64 m.ms) := by simp [World.cell?, show u.heap[z]? = _ from h, mkC]
  have c5 : u.cell? ⟨z, 5, none⟩ = some (.int .i64 m.gn) := by simp [World.cell?, show u.heap[z]? = _ from h, mkC]
  have c6 : u.cell? ⟨z, 6, none⟩ = some (.int .i64 m.ct) := by simp [World.cell?, show u.heap[z]? = _ from h, mkC]
  have c7 : u.cell? ⟨z, 7, none⟩ = some (.int .i64 m.tl) := by simp [World.cell?, show u.heap[z]? = _ from h, mkC]
  have c8 : u.cell? ⟨z, 8, none⟩ = some (.int .i64 m.lg) := by simp [World.cell?, show u.heap[z]? = _ from h, mkC]
  unfold mrkBox
  simp [results, Try.results13, go_sem, h2, c0, c1, c2, c3, c4, c5, c6, c7, c8]
set_option maxRecDepth 8000 in
set_option maxHeartbeats 2000000 in
theorem mark_fn {w : World} {F B : Nat} {V : Value} {f : Fo} (h : FoAt w F B V f) :
    Calls Try.prog 13 #[.pointer (some ⟨F, 0, none⟩)] w fun e w' => e = .returned (mrkBox f.m) ∧ Below w.heap.size w w' := by
  obtain ⟨w1, hw1⟩ : ∃ w1, w.alloc (.cells #[.int .i64 0, .int .i64 0, .int .i64 0, .int .i64 0, .int .i64 0, .int .i64 0, .int .i64 0, .int .i64 0, .int .i64 0] 37) = w1 := ⟨_, rfl⟩
  have k1 : Below w.heap.size w w1 := by rw [← hw1]; exact (Below.refl _ _).alloc (Nat.le_refl _) _
  obtain ⟨z, hz⟩ : ∃ z, w.heap.size = z := ⟨_, rfl⟩
  have HW1 : Hid (w.alloc (.cells #[.int .i64 0, .int .i64 0, .int .i64 0, .int .i64 0, .int .i64 0, .int .i64 0, .int .i64 0, .int .i64 0, .int .i64 0] 37) = w1 ∧ w.heap.size = z) := ⟨hw1, hz⟩
  have hst : w1.heap[z]? = some (.cells #[.int .i64 0, .int .i64 0, .int .i64 0, .int .i64 0, .int .i64 0, .int .i64 0, .int .i64 0, .int .i64 0, .int .i64 0] 37 (0, 0)) := by rw [← hw1, ← hz]; exact heap_alloc_new w _
  obtain ⟨m1, hm1⟩ : ∃ m1, f.m = m1 := ⟨_, rfl⟩
  have hb := (h.later k1).b
  obtain ⟨_, d1, d2, d3, d4⟩ := hb.cells
  obtain ⟨d5, d6, d7, d8, d9, _, _⟩ := hb.losses
  rw [hm1] at d1 d2 d3 d4 d5 d6 d7 d8 d9 ⊢
  have HE := mk_set hst k1 (by omega) m1
  have hfz : ∀ j, w1.frozen? ⟨z, j, none⟩ = false := fun j => by simp [World.frozen?, hst]
  have b0 : w1.cell? ⟨z, 0, none⟩ = some (.int .i64 0) := by simp [World.cell?, hst]
  have b1 : w1.cell? ⟨z, 1, none⟩ = some (.int .i64 0) := by simp [World.cell?, hst]
  have b2 : w1.cell? ⟨z, 2, none⟩ = some (.int .i64 0) := by simp [World.cell?, hst]
  have b3 : w1.cell? ⟨z, 3, none⟩ = some (.int .i64 0) := by simp [World.cell?, hst]
  have b4 : w1.cell? ⟨z, 4, none⟩ = some (.int .i64 0) := by simp [World.cell?, hst]
  have b5 : w1.cell? ⟨z, 5, none⟩ = some (.int .i64 0) := by simp [World.cell?, hst]
  have b6 : w1.cell? ⟨z, 6, none⟩ = some (.int .i64 0) := by simp [World.cell?, hst]
  have b7 : w1.cell? ⟨z, 7, none⟩ = some (.int .i64 0) := by simp [World.cell?, hst]
  have b8 : w1.cell? ⟨z, 8, none⟩ = some (.int .i64 0) := by simp [World.cell?, hst]
  have hFz : F ≠ z := fun e => by have := h.b.lt; omega
  have HE : Hid (MkBx (((((((((w1.setCell ⟨z, 0, none⟩ (.int .i64 m1.s)).setCell ⟨z, 1, none⟩ (.int .i64 m1.n)).setCell ⟨z, 2, none⟩ (.int .i64 m1.g)).setCell ⟨z, 3, none⟩ (.int .i64 m1.o)).setCell ⟨z, 4, none⟩ (.int .i64 m1.ms)).setCell ⟨z, 5, none⟩ (.int .i64 m1.gn)).setCell ⟨z, 6, none⟩ (.int .i64 m1.ct)).setCell ⟨z, 7, none⟩ (.int .i64 m1.tl)).setCell ⟨z, 8, none⟩ (.int .i64 m1.lg)) z m1 ∧ Below w.heap.size w (((((((((w1.setCell ⟨z, 0, none⟩ (.int .i64 m1.s)).setCell ⟨z, 1, none⟩ (.int .i64 m1.n)).setCell ⟨z, 2, none⟩ (.int .i64 m1.g)).setCell ⟨z, 3, none⟩ (.int .i64 m1.o)).setCell ⟨z, 4, none⟩ (.int .i64 m1.ms)).setCell ⟨z, 5, none⟩ (.int .i64 m1.gn)).setCell ⟨z, 6, none⟩ (.int .i64 m1.ct)).setCell ⟨z, 7, none⟩ (.int .i64 m1.tl)).setCell ⟨z, 8, none⟩ (.int .i64 m1.lg))) := HE
  clear h hw1 hz k1 hst hb hm1
  go_enter Try.func13, Try.ntmps13
  go_upto_region 1 with fail
  rw [HW1.out.1, HW1.out.2]
  clear HW1
  go_wp2
  refine bodyPost_ret (mark_res rfl HE.out.1) rfl ?_
  exact ⟨rfl, HE.out.2⟩
theorem held_at {w : World} {F B : Nat} {V : Value} {f : Fo} (h : FoAt w F B V f) :
    Calls Try.prog 16 #[.pointer (some ⟨F, 0, none⟩)] w fun e w' => e = .returned (.int .i64 (f.k.held.length : Nat)) ∧ w' = w := by
  have c0 := h.b.cells.1
  have HC : Hid (Calls Try.prog 34 #[.pointer (some ⟨B, 0, none⟩)] w fun e w' => e = .returned (.int .i64 (f.k.held.length : Nat)) ∧ w' = w) := held_fn h.m.b h.m.o
  obtain ⟨n, hn⟩ : ∃ n, f.k.held.length = n := ⟨_, rfl⟩
  rw [hn] at HC ⊢
  clear h hn
  go_enter Try.func16, Try.ntmps16
  go_wp2_with fail
  refine HC.out.mono ?_
  rintro e w1 ⟨rfl, hw⟩
  rw [hw]
  clear hw HC
  go_wp2
  go_ret
  exact ⟨rfl, rfl⟩
end Go.Proofs.Ytpikepifhnkmkaa
