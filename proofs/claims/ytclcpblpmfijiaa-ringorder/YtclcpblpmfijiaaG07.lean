/- ring's functions, of things: place, Full, Len, Front, Push, Pop. -/
import Derived.Test.YtclcpblpmfijiaaG06
namespace Go.Proofs.Ytclcpblpmfijiaa
open Go.RowKit Go.Maps Rg
attribute [local go_sem ↓] Go.wp_at_zero Go.wp_at_succ

theorem tplace_any {w : World} {B R n f c : Nat} (h : TBox w B R n f c) (hf : f < n) (hn : n ≤ 64) (k : Nat) (hk : k ≤ 64) :
    Calls Try.prog 24 #[.pointer (some ⟨B, 0, none⟩), .int .i64 (k : Nat)] w fun e w' => e = .returned (.int .i64 (((f + k) % n : Nat) : Nat)) ∧ w' = w.drew := by
  obtain ⟨c0, c1, c2⟩ := h.cells
  have HN : Hid (((f : Int) + k).tmod n = (((f + k) % n : Nat) : Nat)) := by
    show _ = _
    rw [show (f : Int) + k = ((f + k : Nat) : Int) by omega, Int.ofNat_tmod]
  have hb : f < 64 ∧ k ≤ 64 ∧ n ≤ 64 ∧ 0 < n := by omega
  have hnz : (n : Int) ≠ 0 := by omega
  clear h
  go_enter Try.func24, Try.ntmps24
  go_upto_region 1 with fail
  go_region
  go_wp2
  go_ret
  exact ⟨ret_int HN.out, rfl⟩
theorem tfull_any {w : World} {B R n f c : Nat} (h : TBox w B R n f c) :
    Calls Try.prog 8 #[.pointer (some ⟨B, 0, none⟩)] w fun e w' => e = .returned (.bool (decide (c = n))) ∧ w' = w.drew := by
  obtain ⟨c0, c1, c2⟩ := h.cells
  clear h
  go_enter Try.func8, Try.ntmps8
  go_upto_region 1 with fail
  go_region
  go_wp2
  go_ret
  exact ⟨ret_bool (by by_cases e : c = n <;> simp [e]; omega), rfl⟩
theorem tlen_any {w : World} {B R n f c : Nat} (h : TBox w B R n f c) :
    Calls Try.prog 7 #[.pointer (some ⟨B, 0, none⟩)] w fun e w' => e = .returned (.int .i64 (c : Nat)) ∧ w' = w := by
  obtain ⟨c0, c1, c2⟩ := h.cells
  clear h
  go_enter Try.func7, Try.ntmps7
  go_wp2
  go_ret
  exact ⟨rfl, rfl⟩
theorem tdrew_below (w : World) (q : Nat) : Below w.heap.size w (w.drewN q) := ⟨rfl, rfl, rfl, Nat.le_refl _, fun _ _ => rfl⟩
theorem tdrew2 (w : World) : Below w.heap.size w w.drew.drew := ⟨rfl, rfl, rfl, Nat.le_refl _, fun _ _ => rfl⟩
theorem tdrew3 (w : World) : Below w.heap.size w w.drew.drew.drew := ⟨rfl, rfl, rfl, Nat.le_refl _, fun _ _ => rfl⟩
theorem tset_drew (w : World) (a : Addr) (v : Value) : w.drew.setCell a v = (w.setCell a v).drew := rfl
theorem below_put {w u : World} (h : Below w.heap.size w u) {A : Nat} (hA : w.heap.size ≤ A) (j : Nat) (v : Value) : Below w.heap.size w (u.setCell ⟨A, j, none⟩ v) := by
  refine ⟨h.os, h.tape, h.output, ?_, fun k hk => ?_⟩
  · have := h.size
    simp only [World.setCell, Array.size_modify]
    exact this
  · exact (Below.heap_setCell u ⟨A, j, none⟩ _ k (by show k ≠ A; omega)).trans (h.block k hk)
theorem below_d {w u : World} (h : Below w.heap.size w u) : Below w.heap.size w u.drew := (h.trans (((Below.refl _ u).drew).mono h.size) : Below _ _ _)
/-- a new box of a thing -/
def ThB (w : World) (A : Nat) (x : Th) : Prop := w.heap[A]? = some (.cells #[.string x.s, .int .i64 x.n] 29 (0, 0))
theorem ThB.cells {w : World} {A : Nat} {x : Th} (h : ThB w A x) : w.cell? ⟨A, 0, none⟩ = some (.string x.s) ∧ w.cell? ⟨A, 1, none⟩ = some (.int .i64 x.n) := by
  simp [World.cell?, show w.heap[A]? = _ from h]
theorem ThB.frozen {w : World} {A : Nat} {x : Th} (h : ThB w A x) (j : Nat) : w.frozen? ⟨A, j, none⟩ = false := by simp [World.frozen?, show w.heap[A]? = _ from h]
theorem ThB.lt {w : World} {A : Nat} {x : Th} (h : ThB w A x) : A < w.heap.size := (Array.getElem?_eq_some_iff.1 h).1
theorem ThB.same {w u : World} {A : Nat} {x : Th} (h : ThB w A x) (e : u.heap[A]? = w.heap[A]?) : ThB u A x := e.trans h
theorem ThB.later {w u : World} {A : Nat} {x : Th} (h : ThB w A x) (hb : Below w.heap.size w u) : ThB u A x := h.same (hb.block A h.lt)
theorem ThB.put {w : World} {A : Nat} {x : Th} (h : ThB w A x) (y : Th) : ThB ((w.setCell ⟨A, 0, none⟩ (.string y.s)).setCell ⟨A, 1, none⟩ (.int .i64 y.n)) A y := by
  unfold ThB
  rw [heap_set (heap_set h 0 _) 1 _]
  simp
theorem thB_new (w : World) (x : Th) : ThB (w.alloc (.cells #[.string x.s, .int .i64 x.n] 29)) w.heap.size x := heap_alloc_new w _
theorem below_new (w : World) (ob : Obj) : Below w.heap.size w (w.alloc ob) := (Below.refl _ _).alloc (Nat.le_refl _) _
theorem th_res {F : Func} (hF : F.results = #[.cell 2 29, .tmp 3]) {tmps : Array Value} {u : World} {A : Nat} {x : Th} {b : Bool} (h2 : tmps[2]?.getD undef = .pointer (some ⟨A, 0, none⟩)) (h3 : tmps[3]?.getD undef = .bool b) (h : ThB u A x) : (results F tmps).run Try.prog u = .ok (.tuple #[x.v, .bool b]) u := by
  obtain ⟨c0, c1⟩ := h.cells
  unfold Th.v
  simp [results, hF, go_sem, h2, h3, c0, c1]
theorem tfront_any {w : World} {B R n f : Nat} {l : List Th} (h : TgAt w B R n f l) :
    Calls Try.prog 11 #[.pointer (some ⟨B, 0, none⟩)] w fun e w' => e = .returned (.tuple #[(l.head?.getD thZ).v, .bool (decide (0 < l.length))]) ∧ Below w.heap.size w w' := by
  obtain ⟨w1, hw1⟩ : ∃ w1, w.alloc (.cells #[.string ⟨#[]⟩, .int .i64 0] 29) = w1 := ⟨_, rfl⟩
  obtain ⟨A, hA⟩ : ∃ A, w.heap.size = A := ⟨_, rfl⟩
  have k1 : Below w.heap.size w w1 := by rw [← hw1]; exact below_new w _
  have b1 : ThB w1 A thZ := by rw [← hw1, ← hA]; exact thB_new w thZ
  have h1 := h.later k1
  obtain ⟨c0, c1, c2⟩ := h1.b.cells
  have c3 := h1.r.cell h.f
  rw [rd_first h.f] at c3
  obtain ⟨c3, c4⟩ := c3
  have hl : l.length ≤ 64 := by have := h.l; have := h.n; omega
  obtain ⟨m, hm⟩ : ∃ m, l.length = m := ⟨_, rfl⟩
  obtain ⟨x, hx⟩ : ∃ x, l.head?.getD thZ = x := ⟨_, rfl⟩
  rw [hx] at c3 c4 ⊢
  rw [hm] at c2 hl ⊢
  obtain ⟨s, z⟩ := x
  simp only at c3 c4
  have hf := h.f
  have hn := h.n
  obtain ⟨a0, a1⟩ := b1.cells
  have q0 := b1.frozen 0
  have q1 := b1.frozen 1
  have HW : Hid (w.alloc (.cells #[.string ⟨#[]⟩, .int .i64 0] 29) = w1) := hw1
  have HA : Hid (w.heap.size = A) := hA
  have HF : Hid (Below w.heap.size w (((w1.setCell ⟨A, 0, none⟩ (.string s)).setCell ⟨A, 1, none⟩ (.int .i64 z)).drew)) := below_d (below_put (below_put k1 (Nat.le_of_eq hA) 0 _) (Nat.le_of_eq hA) 1 _)
  have HT : Hid (ThB (((w1.setCell ⟨A, 0, none⟩ (.string s)).setCell ⟨A, 1, none⟩ (.int .i64 z)).drew) A ⟨s, z⟩) := b1.put ⟨s, z⟩
  have HD : Hid (decide (0 < (m : Int)) = decide (0 < m)) := by show _ = _; by_cases e : 0 < m <;> simp [e]
  clear h hx hm hw1 hA k1 b1 h1
  go_enter Try.func11, Try.ntmps11
  go_upto_region 1 with fail
  rw [HW.out, HA.out]
  go_region
  go_wp2
  refine bodyPost_ret (th_res Try.results11 (x := ⟨s, z⟩) (b := decide (0 < m)) rfl (by first | exact congrArg Value.bool HD.out | rfl) HT.out) rfl ?_
  exact ⟨rfl, HF.out⟩
end Go.Proofs.Ytclcpblpmfijiaa
