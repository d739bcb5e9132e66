/- follow: New (typed by gen/fonew.py). -/
import Derived.Test.YtpikepifhnkmkaaG45
import Derived.Test.YtpikepifhnkmkaaG46
namespace Go.Proofs.Ytpikepifhnkmkaa
open Go.RowKit Go.Maps Sf Ln Fo
attribute [local go_sem ↓] Go.wp_at_zero Go.wp_at_succ

/-- A FOLLOWER IN NEW MEMORY -/
def Nf (w0 : World) (F B : Nat) (f : Fo) (w : World) : Prop := ∃ V, FoAt w F B V f ∧ w0.heap.size ≤ F ∧ w0.heap.size ≤ B ∧ (∀ b, V.ownBlock = some b → w0.heap.size ≤ b) ∧ Below w0.heap.size w0 w
def inoOf (d : Dk) (s : ByteArray) : Nat := if err d s = 0 then num d s else 0
theorem stat_num {d : Dk} {K : Nat} (hw : Wf d K) (s : ByteArray) : ∃ q g z : Nat, statOf d (if err d s = 0 then num d s else 0) = statV (inoOf d s) q g z := by
  unfold statOf inoOf
  by_cases h : err d s = 0
  · rw [if_pos h]
    obtain ⟨f, hf, hn⟩ := hw.numF (err_zero h).2
    rw [hf]
    exact ⟨_, _, _, rfl⟩
  · rw [if_neg h]
    have h0 : d.ino 0 = none := by
      cases x : d.ino 0 with
      | none => rfl
      | some f => have := (hw.ino 0 f x).1; omega
    rw [h0]
    exact ⟨_, _, _, rfl⟩
def newF (p1 : ByteArray) (line chunk : Nat) (m : Mrk) : Fo := ⟨m, p1, chunk, mk0 line⟩
def madeF (p1 p2 : ByteArray) (line chunk : Nat) (m : Mrk) (d : Dk) : Fo := if m.n ≠ 0 ∧ m.n ≠ inoOf d p1 ∧ m.n ≠ inoOf d p2 then (newF p1 line chunk m).lose else newF p1 line chunk m
def pathV (p1 p2 : ByteArray) : Value := .agg #[.string p1, .string p2]
def badName (d : Dk) (p1 p2 : ByteArray) : Prop := err d p1 = 140 ∨ (err d p2 = 140 ∧ p2 ≠ ⟨#[]⟩)
theorem str_ne {p : ByteArray} (h : p ≠ ⟨#[]⟩) : p.toList.isEmpty = false := by
  have := beq_bytes p ⟨#[]⟩
  rw [decide_eq_false h] at this
  have e : (⟨#[]⟩ : ByteArray).toList = [] := by decide +kernel
  rw [e] at this
  cases hp : p.toList with
  | nil => rw [hp] at this; cases this
  | cons x r => rfl
theorem str_eq : (⟨#[]⟩ : ByteArray).toList.isEmpty = true := by decide +kernel
set_option maxRecDepth 8000 in
set_option maxHeartbeats 4000000 in
theorem new_bad1 {w : World} {P : Nat → Prop} {Bd K : Nat} {d : Dk} (hd : Dsk P w Bd d K) (p1 p2 : ByteArray) (hp1 : p1.size ≤ maxLen) (hp2 : p2.size ≤ maxLen) (line chunk : Int) (m : Mrk)
    (hb : err d p1 = 140) :
    Calls Try.prog 8 #[pathV p1 p2, .int .i64 line, .int .i64 chunk, mrkBox m, .pointer (some ⟨Bd, 0, none⟩)] w fun e w' => e = .returned (.tuple #[.pointer none, .int .i64 140]) ∧ Below w.heap.size w w' := by
  unfold pathV mrkBox
  obtain ⟨w1, hw1⟩ : ∃ w1, w.alloc (.cells #[.string p1, .string p2] 29) = w1 := ⟨_, rfl⟩
  obtain ⟨A, hA⟩ : ∃ A, w.heap.size = A := ⟨_, rfl⟩
  have k1 : Below w.heap.size w w1 := by rw [← hw1]; exact (Below.refl _ _).alloc (Nat.le_refl _) _
  have h1 : w1.heap[A]? = some (.cells #[.string p1, .string p2] 29 (0, 0)) := by rw [← hw1, ← hA]; exact heap_alloc_new w _
  obtain ⟨w2, hw2⟩ : ∃ w2, w1.alloc (.cells #[.int .i64 m.s, .int .i64 m.n, .int .i64 m.g, .int .i64 m.o, .int .i64 m.ms, .int .i64 m.gn, .int .i64 m.ct, .int .i64 m.tl, .int .i64 m.lg] 37) = w2 := ⟨_, rfl⟩
  obtain ⟨A2, hA2⟩ : ∃ A, w1.heap.size = A := ⟨_, rfl⟩
  have k2 : Below w1.heap.size w1 w2 := by rw [← hw2]; exact (Below.refl _ _).alloc (Nat.le_refl _) _
  have h2 : w2.heap[A2]? = some (.cells #[.int .i64 m.s, .int .i64 m.n, .int .i64 m.g, .int .i64 m.o, .int .i64 m.ms, .int .i64 m.gn, .int .i64 m.ct, .int .i64 m.tl, .int .i64 m.lg] 37 (0, 0)) := by rw [← hw2, ← hA2]; exact heap_alloc_new w1 _
  have h12 := (k2.block A (Array.getElem?_eq_some_iff.1 h1).1).trans h1
  have k12 : Below w.heap.size w w2 := below_step k1 k2
  have HW1 : Hid (w.alloc (.cells #[.string p1, .string p2] 29) = w1 ∧ w.heap.size = A) := ⟨hw1, hA⟩
  have HW2 : Hid (w1.alloc (.cells #[.int .i64 m.s, .int .i64 m.n, .int .i64 m.g, .int .i64 m.o, .int .i64 m.ms, .int .i64 m.gn, .int .i64 m.ct, .int .i64 m.tl, .int .i64 m.lg] 37) = w2 ∧ A + 1 = A2) := ⟨hw2, by rw [← hA2, ← hw1, ← hA]; simp⟩
  obtain ⟨q1, g1, z1, hs1⟩ := stat_num hd.wf p1
  obtain ⟨q2, g2, z2, hs2⟩ := stat_num hd.wf p2
  have HS1 : Hid (∀ u, Below w.heap.size w u → Calls Try.prog 19 #[.pointer (some ⟨Bd, 0, none⟩), .string p1] u fun e w' => e = .returned (.tuple #[statV (inoOf d p1) q1 g1 z1, .int .i64 (err d p1 : Nat)]) ∧ Below u.heap.size u w') := fun u hu => by
    have := stat_any (hd.later hu) p1 hp1
    rw [hs1] at this
    exact this
  have HS2 : Hid (∀ u, Below w.heap.size w u → Calls Try.prog 19 #[.pointer (some ⟨Bd, 0, none⟩), .string p2] u fun e w' => e = .returned (.tuple #[statV (inoOf d p2) q2 g2 z2, .int .i64 (err d p2 : Nat)]) ∧ Below u.heap.size u w') := fun u hu => by
    have := stat_any (hd.later hu) p2 hp2
    rw [hs2] at this
    exact this
  have HSC : Hid (Calls Try.prog 19 #[.pointer (some ⟨Bd, 0, none⟩), .string p1] w2 _) := HS1.out w2 k12
  have HB : Hid (Below w.heap.size w w2 ∧ w2.heap[A]? = some (.cells #[.string p1, .string p2] 29 (0, 0)) ∧ w2.heap[A2]? = some (.cells #[.int .i64 m.s, .int .i64 m.n, .int .i64 m.g, .int .i64 m.o, .int .i64 m.ms, .int .i64 m.gn, .int .i64 m.ct, .int .i64 m.tl, .int .i64 m.lg] 37 (0, 0))) := ⟨k12, h12, h2⟩
  obtain ⟨n1, hn1⟩ : ∃ n1, inoOf d p1 = n1 := ⟨_, rfl⟩
  obtain ⟨n2, hn2⟩ : ∃ n2, inoOf d p2 = n2 := ⟨_, rfl⟩
  obtain ⟨x1, hx1⟩ : ∃ x1, err d p1 = x1 := ⟨_, rfl⟩
  obtain ⟨x2, hx2⟩ : ∃ x2, err d p2 = x2 := ⟨_, rfl⟩
  have HN : Hid (inoOf d p1 = n1 ∧ inoOf d p2 = n2) := ⟨hn1, hn2⟩
  rw [hn1, hx1] at HSC HS1
  rw [hn2, hx2] at HS2
  unfold statV at HSC HS1 HS2
  have a0 : w2.cell? ⟨A, 0, none⟩ = some (.string p1) := by simp [World.cell?, h12]
  have e1 : ((x1 : Int) == 140) = true := by rw [← hx1, hb]; rfl
  clear hb
  clear hd hw1 hA k1 h1 hw2 hA2 k2 h2 h12 k12 hs1 hs2 hn1 hn2 hx1 hx2 hp1 hp2
  go_enter Try.func8, Try.ntmps8
  go_upto_region 1 with fail
  rw [HW1.out.1, HW1.out.2, HW2.out.1, HW2.out.2]
  clear HW1 HW2 HS1
  go_wp2_with fail
  refine HSC.out.mono ?_
  rintro e w3 ⟨rfl, k3⟩
  obtain ⟨w4, hw4⟩ : ∃ w4, w3.alloc (.cells #[.int .i64 (n1 : Nat), .int .i64 (q1 : Nat), .int .i64 (g1 : Nat), .int .i64 (z1 : Nat)] 64) = w4 := ⟨_, rfl⟩
  obtain ⟨A4, hA4⟩ : ∃ A, w3.heap.size = A := ⟨_, rfl⟩
  have k4 : Below w3.heap.size w3 w4 := by rw [← hw4]; exact (Below.refl _ _).alloc (Nat.le_refl _) _
  have k24 : Below w2.heap.size w2 w4 := below_step k3 k4
  have st4 : StatB w4 A4 (.int .i64 (n1 : Nat)) (.int .i64 (q1 : Nat)) (.int .i64 (g1 : Nat)) (.int .i64 (z1 : Nat)) := by rw [← hw4, ← hA4]; exact heap_alloc_new w3 _
  have HW4 : Hid (w3.alloc (.cells #[.int .i64 (n1 : Nat), .int .i64 (q1 : Nat), .int .i64 (g1 : Nat), .int .i64 (z1 : Nat)] 64) = w4 ∧ w3.heap.size = A4) := ⟨hw4, hA4⟩
  have HK4 : Hid (Below w2.heap.size w2 w4 ∧ StatB w4 A4 (.int .i64 (n1 : Nat)) (.int .i64 (q1 : Nat)) (.int .i64 (g1 : Nat)) (.int .i64 (z1 : Nat))) := ⟨k24, st4⟩
  have HSD : Hid (Calls Try.prog 19 #[.pointer (some ⟨Bd, 0, none⟩), .string p2] w4 _) := HS2.out w4 (below_step HB.out.1 k24)
  have a1 : w4.cell? ⟨A, 1, none⟩ = some (.string p2) := cell_later k24 _ _ _ (by simp [World.cell?, HB.out.2.1])
  clear k3 hw4 hA4 k4 k24 st4 HSC HS2 a0
  go_upto_region 2 with fail
  rw [HW4.out.1, HW4.out.2]
  clear HW4
  go_wp2_with fail
  refine HSD.out.mono ?_
  rintro e w5 ⟨rfl, k5⟩
  obtain ⟨w6, hw6⟩ : ∃ w6, w5.alloc (.cells #[.int .i64 (n2 : Nat), .int .i64 (q2 : Nat), .int .i64 (g2 : Nat), .int .i64 (z2 : Nat)] 64) = w6 := ⟨_, rfl⟩
  obtain ⟨A6, hA6⟩ : ∃ A, w5.heap.size = A := ⟨_, rfl⟩
  have k6 : Below w5.heap.size w5 w6 := by rw [← hw6]; exact (Below.refl _ _).alloc (Nat.le_refl _) _
  have k46 : Below w4.heap.size w4 w6 := below_step k5 k6
  have st6 : StatB w6 A6 (.int .i64 (n2 : Nat)) (.int .i64 (q2 : Nat)) (.int .i64 (g2 : Nat)) (.int .i64 (z2 : Nat)) := by rw [← hw6, ← hA6]; exact heap_alloc_new w5 _
  have HW6 : Hid (w5.alloc (.cells #[.int .i64 (n2 : Nat), .int .i64 (q2 : Nat), .int .i64 (g2 : Nat), .int .i64 (z2 : Nat)] 64) = w6 ∧ w5.heap.size = A6) := ⟨hw6, hA6⟩
  have HK6 : Hid (Below w2.heap.size w2 w6 ∧ StatB w6 A4 (.int .i64 (n1 : Nat)) (.int .i64 (q1 : Nat)) (.int .i64 (g1 : Nat)) (.int .i64 (z1 : Nat)) ∧ StatB w6 A6 (.int .i64 (n2 : Nat)) (.int .i64 (q2 : Nat)) (.int .i64 (g2 : Nat)) (.int .i64 (z2 : Nat))) := ⟨below_step HK4.out.1 k46, (k46.block A4 (Array.getElem?_eq_some_iff.1 HK4.out.2).1).trans HK4.out.2, st6⟩
  have a1' : w6.cell? ⟨A, 1, none⟩ = some (.string p2) := cell_later k46 _ _ _ a1
  clear k5 hw6 hA6 k6 k46 st6 HSD HK4 a1
  go_upto_region 3 with fail
  rw [HW6.out.1, HW6.out.2]
  clear HW6
  have HLO : Hid (Below w.heap.size w w6) := below_step HB.out.1 HK6.out.1
  go_wp2_with fail
  go_ret2
  exact ⟨rfl, HLO.out⟩
set_option maxRecDepth 8000 in
set_option maxHeartbeats 4000000 in
theorem new_bad2 {w : World} {P : Nat → Prop} {Bd K : Nat} {d : Dk} (hd : Dsk P w Bd d K) (p1 p2 : ByteArray) (hp1 : p1.size ≤ maxLen) (hp2 : p2.size ≤ maxLen) (line chunk : Int) (m : Mrk)
    (hb1 : err d p1 ≠ 140) (hb : err d p2 = 140) (hne : p2 ≠ ⟨#[]⟩) :
    Calls Try.prog 8 #[pathV p1 p2, .int .i64 line, .int .i64 chunk, mrkBox m, .pointer (some ⟨Bd, 0, none⟩)] w fun e w' => e = .returned (.tuple #[.pointer none, .int .i64 140]) ∧ Below w.heap.size w w' := by
  unfold pathV mrkBox
  obtain ⟨w1, hw1⟩ : ∃ w1, w.alloc (.cells #[.string p1, .string p2] 29) = w1 := ⟨_, rfl⟩
  obtain ⟨A, hA⟩ : ∃ A, w.heap.size = A := ⟨_, rfl⟩
  have k1 : Below w.heap.size w w1 := by rw [← hw1]; exact (Below.refl _ _).alloc (Nat.le_refl _) _
  have h1 : w1.heap[A]? = some (.cells #[.string p1, .string p2] 29 (0, 0)) := by rw [← hw1, ← hA]; exact heap_alloc_new w _
  obtain ⟨w2, hw2⟩ : ∃ w2, w1.alloc (.cells #[.int .i64 m.s, .int .i64 m.n, .int .i64 m.g, .int .i64 m.o, .int .i64 m.ms, .int .i64 m.gn, .int .i64 m.ct, .int .i64 m.tl, .int .i64 m.lg] 37) = w2 := ⟨_, rfl⟩
  obtain ⟨A2, hA2⟩ : ∃ A, w1.heap.size = A := ⟨_, rfl⟩
  have k2 : Below w1.heap.size w1 w2 := by rw [← hw2]; exact (Below.refl _ _).alloc (Nat.le_refl _) _
  have h2 : w2.heap[A2]? = some (.cells #[.int .i64 m.s, .int .i64 m.n, .int .i64 m.g, .int .i64 m.o, .int .i64 m.ms, .int .i64 m.gn, .int .i64 m.ct, .int .i64 m.tl, .int .i64 m.lg] 37 (0, 0)) := by rw [← hw2, ← hA2]; exact heap_alloc_new w1 _
  have h12 := (k2.block A (Array.getElem?_eq_some_iff.1 h1).1).trans h1
  have k12 : Below w.heap.size w w2 := below_step k1 k2
  have HW1 : Hid (w.alloc (.cells #[.string p1, .string p2] 29) = w1 ∧ w.heap.size = A) := ⟨hw1, hA⟩
  have HW2 : Hid (w1.alloc (.cells #[.int .i64 m.s, .int .i64 m.n, .int .i64 m.g, .int .i64 m.o, .int .i64 m.ms, .int .i64 m.gn, .int .i64 m.ct, .int .i64 m.tl, .int .i64 m.lg] 37) = w2 ∧ A + 1 = A2) := ⟨hw2, by rw [← hA2, ← hw1, ← hA]; simp⟩
  obtain ⟨q1, g1, z1, hs1⟩ := stat_num hd.wf p1
  obtain ⟨q2, g2, z2, hs2⟩ := stat_num hd.wf p2
  have HS1 : Hid (∀ u, Below w.heap.size w u → Calls Try.prog 19 #[.pointer (some ⟨Bd, 0, none⟩), .string p1] u fun e w' => e = .returned (.tuple #[statV (inoOf d p1) q1 g1 z1, .int .i64 (err d p1 : Nat)]) ∧ Below u.heap.size u w') := fun u hu => by
    have := stat_any (hd.later hu) p1 hp1
    rw [hs1] at this
    exact this
  have HS2 : Hid (∀ u, Below w.heap.size w u → Calls Try.prog 19 #[.pointer (some ⟨Bd, 0, none⟩), .string p2] u fun e w' => e = .returned (.tuple #[statV (inoOf d p2) q2 g2 z2, .int .i64 (err d p2 : Nat)]) ∧ Below u.heap.size u w') := fun u hu => by
    have := stat_any (hd.later hu) p2 hp2
    rw [hs2] at this
    exact this
  have HSC : Hid (Calls Try.prog 19 #[.pointer (some ⟨Bd, 0, none⟩), .string p1] w2 _) := HS1.out w2 k12
  have HB : Hid (Below w.heap.size w w2 ∧ w2.heap[A]? = some (.cells #[.string p1, .string p2] 29 (0, 0)) ∧ w2.heap[A2]? = some (.cells #[.int .i64 m.s, .int .i64 m.n, .int .i64 m.g, .int .i64 m.o, .int .i64 m.ms, .int .i64 m.gn, .int .i64 m.ct, .int .i64 m.tl, .int .i64 m.lg] 37 (0, 0))) := ⟨k12, h12, h2⟩
  obtain ⟨n1, hn1⟩ : ∃ n1, inoOf d p1 = n1 := ⟨_, rfl⟩
  obtain ⟨n2, hn2⟩ : ∃ n2, inoOf d p2 = n2 := ⟨_, rfl⟩
  obtain ⟨x1, hx1⟩ : ∃ x1, err d p1 = x1 := ⟨_, rfl⟩
  obtain ⟨x2, hx2⟩ : ∃ x2, err d p2 = x2 := ⟨_, rfl⟩
  have HN : Hid (inoOf d p1 = n1 ∧ inoOf d p2 = n2) := ⟨hn1, hn2⟩
  rw [hn1, hx1] at HSC HS1
  rw [hn2, hx2] at HS2
  unfold statV at HSC HS1 HS2
  have a0 : w2.cell? ⟨A, 0, none⟩ = some (.string p1) := by simp [World.cell?, h12]
  have e1 : ((x1 : Int) == 140) = false := by rw [← hx1]; simp; omega
  have e2 : ((x2 : Int) == 140) = true := by rw [← hx2, hb]; rfl
  have e3 : p2.toList.isEmpty = false := str_ne hne
  clear hb hb1 hne
  clear hd hw1 hA k1 h1 hw2 hA2 k2 h2 h12 k12 hs1 hs2 hn1 hn2 hx1 hx2 hp1 hp2
  go_enter Try.func8, Try.ntmps8
  go_upto_region 1 with fail
  rw [HW1.out.1, HW1.out.2, HW2.out.1, HW2.out.2]
  clear HW1 HW2 HS1
  go_wp2_with fail
  refine HSC.out.mono ?_
  rintro e w3 ⟨rfl, k3⟩
  obtain ⟨w4, hw4⟩ : ∃ w4, w3.alloc (.cells #[.int .i64 (n1 : Nat), .int .i64 (q1 : Nat), .int .i64 (g1 : Nat), .int .i64 (z1 : Nat)] 64) = w4 := ⟨_, rfl⟩
  obtain ⟨A4, hA4⟩ : ∃ A, w3.heap.size = A := ⟨_, rfl⟩
  have k4 : Below w3.heap.size w3 w4 := by rw [← hw4]; exact (Below.refl _ _).alloc (Nat.le_refl _) _
  have k24 : Below w2.heap.size w2 w4 := below_step k3 k4
  have st4 : StatB w4 A4 (.int .i64 (n1 : Nat)) (.int .i64 (q1 : Nat)) (.int .i64 (g1 : Nat)) (.int .i64 (z1 : Nat)) := by rw [← hw4, ← hA4]; exact heap_alloc_new w3 _
  have HW4 : Hid (w3.alloc (.cells #[.int .i64 (n1 : Nat), .int .i64 (q1 : Nat), .int .i64 (g1 : Nat), .int .i64 (z1 : Nat)] 64) = w4 ∧ w3.heap.size = A4) := ⟨hw4, hA4⟩
  have HK4 : Hid (Below w2.heap.size w2 w4 ∧ StatB w4 A4 (.int .i64 (n1 : Nat)) (.int .i64 (q1 : Nat)) (.int .i64 (g1 : Nat)) (.int .i64 (z1 : Nat))) := ⟨k24, st4⟩
  have HSD : Hid (Calls Try.prog 19 #[.pointer (some ⟨Bd, 0, none⟩), .string p2] w4 _) := HS2.out w4 (below_step HB.out.1 k24)
  have a1 : w4.cell? ⟨A, 1, none⟩ = some (.string p2) := cell_later k24 _ _ _ (by simp [World.cell?, HB.out.2.1])
  clear k3 hw4 hA4 k4 k24 st4 HSC HS2 a0
  go_upto_region 2 with fail
  rw [HW4.out.1, HW4.out.2]
  clear HW4
  go_wp2_with fail
  refine HSD.out.mono ?_
  rintro e w5 ⟨rfl, k5⟩
  obtain ⟨w6, hw6⟩ : ∃ w6, w5.alloc (.cells #[.int .i64 (n2 : Nat), .int .i64 (q2 : Nat), .int .i64 (g2 : Nat), .int .i64 (z2 : Nat)] 64) = w6 := ⟨_, rfl⟩
  obtain ⟨A6, hA6⟩ : ∃ A, w5.heap.size = A := ⟨_, rfl⟩
  have k6 : Below w5.heap.size w5 w6 := by rw [← hw6]; exact (Below.refl _ _).alloc (Nat.le_refl _) _
  have k46 : Below w4.heap.size w4 w6 := below_step k5 k6
  have st6 : StatB w6 A6 (.int .i64 (n2 : Nat)) (.int .i64 (q2 : Nat)) (.int .i64 (g2 : Nat)) (.int .i64 (z2 : Nat)) := by rw [← hw6, ← hA6]; exact heap_alloc_new w5 _
  have HW6 : Hid (w5.alloc (.cells #[.int .i64 (n2 : Nat), .int .i64 (q2 : Nat), .int .i64 (g2 : Nat), .int .i64 (z2 : Nat)] 64) = w6 ∧ w5.heap.size = A6) := ⟨hw6, hA6⟩
  have HK6 : Hid (Below w2.heap.size w2 w6 ∧ StatB w6 A4 (.int .i64 (n1 : Nat)) (.int .i64 (q1 : Nat)) (.int .i64 (g1 : Nat)) (.int .i64 (z1 : Nat)) ∧ StatB w6 A6 (.int .i64 (n2 : Nat)) (.int .i64 (q2 : Nat)) (.int .i64 (g2 : Nat)) (.int .i64 (z2 : Nat))) := ⟨below_step HK4.out.1 k46, (k46.block A4 (Array.getElem?_eq_some_iff.1 HK4.out.2).1).trans HK4.out.2, st6⟩
  have a1' : w6.cell? ⟨A, 1, none⟩ = some (.string p2) := cell_later k46 _ _ _ a1
  clear k5 hw6 hA6 k6 k46 st6 HSD HK4 a1
  go_upto_region 3 with fail
  rw [HW6.out.1, HW6.out.2]
  clear HW6
  have HLO : Hid (Below w.heap.size w w6) := below_step HB.out.1 HK6.out.1
  go_wp2_with fail
  go_ret2
  exact ⟨rfl, HLO.out⟩
set_option maxRecDepth 8000 in
set_option maxHeartbeats 4000000 in
theorem new_invA {w : World} {P : Nat → Prop} {Bd K : Nat} {d : Dk} (hd : Dsk P w Bd d K) (p1 p2 : ByteArray) (hp1 : p1.size ≤ maxLen) (hp2 : p2.size ≤ maxLen) (line chunk : Int) (m : Mrk)
    (hgo : err d p1 ≠ 140 ∧ (err d p2 ≠ 140 ∨ p2 = ⟨#[]⟩)) (hl : line < 0 ∨ 4096 < line) :
    Calls Try.prog 8 #[pathV p1 p2, .int .i64 line, .int .i64 chunk, mrkBox m, .pointer (some ⟨Bd, 0, none⟩)] w fun e w' => e = .returned (.tuple #[.pointer none, .int .i64 1]) ∧ Below w.heap.size w w' := by
  unfold pathV mrkBox
  obtain ⟨w1, hw1⟩ : ∃ w1, w.alloc (.cells #[.string p1, .string p2] 29) = w1 := ⟨_, rfl⟩
  obtain ⟨A, hA⟩ : ∃ A, w.heap.size = A := ⟨_, rfl⟩
  have k1 : Below w.heap.size w w1 := by rw [← hw1]; exact (Below.refl _ _).alloc (Nat.le_refl _) _
  have h1 : w1.heap[A]? = some (.cells #[.string p1, .string p2] 29 (0, 0)) := by rw [← hw1, ← hA]; exact heap_alloc_new w _
  obtain ⟨w2, hw2⟩ : ∃ w2, w1.alloc (.cells #[.int .i64 m.s, .int .i64 m.n, .int .i64 m.g, .int .i64 m.o, .int .i64 m.ms, .int .i64 m.gn, .int .i64 m.ct, .int .i64 m.tl, .int .i64 m.lg] 37) = w2 := ⟨_, rfl⟩
  obtain ⟨A2, hA2⟩ : ∃ A, w1.heap.size = A := ⟨_, rfl⟩
  have k2 : Below w1.heap.size w1 w2 := by rw [← hw2]; exact (Below.refl _ _).alloc (Nat.le_refl _) _
  have h2 : w2.heap[A2]? = some (.cells #[.int .i64 m.s, .int .i64 m.n, .int .i64 m.g, .int .i64 m.o, .int .i64 m.ms, .int .i64 m.gn, .int .i64 m.ct, .int .i64 m.tl, .int .i64 m.lg] 37 (0, 0)) := by rw [← hw2, ← hA2]; exact heap_alloc_new w1 _
  have h12 := (k2.block A (Array.getElem?_eq_some_iff.1 h1).1).trans h1
  have k12 : Below w.heap.size w w2 := below_step k1 k2
  have HW1 : Hid (w.alloc (.cells #[.string p1, .string p2] 29) = w1 ∧ w.heap.size = A) := ⟨hw1, hA⟩
  have HW2 : Hid (w1.alloc (.cells #[.int .i64 m.s, .int .i64 m.n, .int .i64 m.g, .int .i64 m.o, .int .i64 m.ms, .int .i64 m.gn, .int .i64 m.ct, .int .i64 m.tl, .int .i64 m.lg] 37) = w2 ∧ A + 1 = A2) := ⟨hw2, by rw [← hA2, ← hw1, ← hA]; simp⟩
  obtain ⟨q1, g1, z1, hs1⟩ := stat_num hd.wf p1
  obtain ⟨q2, g2, z2, hs2⟩ := stat_num hd.wf p2
  have HS1 : Hid (∀ u, Below w.heap.size w u → Calls Try.prog 19 #[.pointer (some ⟨Bd, 0, none⟩), .string p1] u fun e w' => e = .returned (.tuple #[statV (inoOf d p1) q1 g1 z1, .int .i64 (err d p1 : Nat)]) ∧ Below u.heap.size u w') := fun u hu => by
    have := stat_any (hd.later hu) p1 hp1
    rw [hs1] at this
    exact this
  have HS2 : Hid (∀ u, Below w.heap.size w u → Calls Try.prog 19 #[.pointer (some ⟨Bd, 0, none⟩), .string p2] u fun e w' => e = .returned (.tuple #[statV (inoOf d p2) q2 g2 z2, .int .i64 (err d p2 : Nat)]) ∧ Below u.heap.size u w') := fun u hu => by
    have := stat_any (hd.later hu) p2 hp2
    rw [hs2] at this
    exact this
  have HSC : Hid (Calls Try.prog 19 #[.pointer (some ⟨Bd, 0, none⟩), .string p1] w2 _) := HS1.out w2 k12
  have HB : Hid (Below w.heap.size w w2 ∧ w2.heap[A]? = some (.cells #[.string p1, .string p2] 29 (0, 0)) ∧ w2.heap[A2]? = some (.cells #[.int .i64 m.s, .int .i64 m.n, .int .i64 m.g, .int .i64 m.o, .int .i64 m.ms, .int .i64 m.gn, .int .i64 m.ct, .int .i64 m.tl, .int .i64 m.lg] 37 (0, 0))) := ⟨k12, h12, h2⟩
  obtain ⟨n1, hn1⟩ : ∃ n1, inoOf d p1 = n1 := ⟨_, rfl⟩
  obtain ⟨n2, hn2⟩ : ∃ n2, inoOf d p2 = n2 := ⟨_, rfl⟩
  obtain ⟨x1, hx1⟩ : ∃ x1, err d p1 = x1 := ⟨_, rfl⟩
  obtain ⟨x2, hx2⟩ : ∃ x2, err d p2 = x2 := ⟨_, rfl⟩
  have HN : Hid (inoOf d p1 = n1 ∧ inoOf d p2 = n2) := ⟨hn1, hn2⟩
  rw [hn1, hx1] at HSC HS1
  rw [hn2, hx2] at HS2
  unfold statV at HSC HS1 HS2
  have a0 : w2.cell? ⟨A, 0, none⟩ = some (.string p1) := by simp [World.cell?, h12]
  have e1 : ((x1 : Int) == 140) = false := by rw [← hx1]; simp; omega
  have e2 : ((x2 : Int) == 140) = false ∨ (((x2 : Int) == 140) = true ∧ p2 = ⟨#[]⟩) := by
    rw [← hx2]
    rcases hgo.2 with y | y
    · left; simp; omega
    · by_cases z : err d p2 = 140
      · right; rw [z]; exact ⟨rfl, y⟩
      · left; simp; omega
  clear hgo
  clear hd hw1 hA k1 h1 hw2 hA2 k2 h2 h12 k12 hs1 hs2 hn1 hn2 hx1 hx2 hp1 hp2
  go_enter Try.func8, Try.ntmps8
  go_upto_region 1 with fail
  rw [HW1.out.1, HW1.out.2, HW2.out.1, HW2.out.2]
  clear HW1 HW2 HS1
  go_wp2_with fail
  refine HSC.out.mono ?_
  rintro e w3 ⟨rfl, k3⟩
  obtain ⟨w4, hw4⟩ : ∃ w4, w3.alloc (.cells #[.int .i64 (n1 : Nat), .int .i64 (q1 : Nat), .int .i64 (g1 : Nat), .int .i64 (z1 : Nat)] 64) = w4 := ⟨_, rfl⟩
  obtain ⟨A4, hA4⟩ : ∃ A, w3.heap.size = A := ⟨_, rfl⟩
  have k4 : Below w3.heap.size w3 w4 := by rw [← hw4]; exact (Below.refl _ _).alloc (Nat.le_refl _) _
  have k24 : Below w2.heap.size w2 w4 := below_step k3 k4
  have st4 : StatB w4 A4 (.int .i64 (n1 : Nat)) (.int .i64 (q1 : Nat)) (.int .i64 (g1 : Nat)) (.int .i64 (z1 : Nat)) := by rw [← hw4, ← hA4]; exact heap_alloc_new w3 _
  have HW4 : Hid (w3.alloc (.cells #[.int .i64 (n1 : Nat), .int .i64 (q1 : Nat), .int .i64 (g1 : Nat), .int .i64 (z1 : Nat)] 64) = w4 ∧ w3.heap.size = A4) := ⟨hw4, hA4⟩
  have HK4 : Hid (Below w2.heap.size w2 w4 ∧ StatB w4 A4 (.int .i64 (n1 : Nat)) (.int .i64 (q1 : Nat)) (.int .i64 (g1 : Nat)) (.int .i64 (z1 : Nat))) := ⟨k24, st4⟩
  have HSD : Hid (Calls Try.prog 19 #[.pointer (some ⟨Bd, 0, none⟩), .string p2] w4 _) := HS2.out w4 (below_step HB.out.1 k24)
  have a1 : w4.cell? ⟨A, 1, none⟩ = some (.string p2) := cell_later k24 _ _ _ (by simp [World.cell?, HB.out.2.1])
  clear k3 hw4 hA4 k4 k24 st4 HSC HS2 a0
  go_upto_region 2 with fail
  rw [HW4.out.1, HW4.out.2]
  clear HW4
  go_wp2_with fail
  refine HSD.out.mono ?_
  rintro e w5 ⟨rfl, k5⟩
  obtain ⟨w6, hw6⟩ : ∃ w6, w5.alloc (.cells #[.int .i64 (n2 : Nat), .int .i64 (q2 : Nat), .int .i64 (g2 : Nat), .int .i64 (z2 : Nat)] 64) = w6 := ⟨_, rfl⟩
  obtain ⟨A6, hA6⟩ : ∃ A, w5.heap.size = A := ⟨_, rfl⟩
  have k6 : Below w5.heap.size w5 w6 := by rw [← hw6]; exact (Below.refl _ _).alloc (Nat.le_refl _) _
  have k46 : Below w4.heap.size w4 w6 := below_step k5 k6
  have st6 : StatB w6 A6 (.int .i64 (n2 : Nat)) (.int .i64 (q2 : Nat)) (.int .i64 (g2 : Nat)) (.int .i64 (z2 : Nat)) := by rw [← hw6, ← hA6]; exact heap_alloc_new w5 _
  have HW6 : Hid (w5.alloc (.cells #[.int .i64 (n2 : Nat), .int .i64 (q2 : Nat), .int .i64 (g2 : Nat), .int .i64 (z2 : Nat)] 64) = w6 ∧ w5.heap.size = A6) := ⟨hw6, hA6⟩
  have HK6 : Hid (Below w2.heap.size w2 w6 ∧ StatB w6 A4 (.int .i64 (n1 : Nat)) (.int .i64 (q1 : Nat)) (.int .i64 (g1 : Nat)) (.int .i64 (z1 : Nat)) ∧ StatB w6 A6 (.int .i64 (n2 : Nat)) (.int .i64 (q2 : Nat)) (.int .i64 (g2 : Nat)) (.int .i64 (z2 : Nat))) := ⟨below_step HK4.out.1 k46, (k46.block A4 (Array.getElem?_eq_some_iff.1 HK4.out.2).1).trans HK4.out.2, st6⟩
  have a1' : w6.cell? ⟨A, 1, none⟩ = some (.string p2) := cell_later k46 _ _ _ a1
  clear k5 hw6 hA6 k6 k46 st6 HSD HK4 a1
  go_upto_region 3 with fail
  rw [HW6.out.1, HW6.out.2]
  clear HW6
  have HLO : Hid (Below w.heap.size w w6) := below_step HB.out.1 HK6.out.1
  go_cut [44] from 34 to 44 (fun v wx => v = .bool false ∧ wx = w6)
  case first =>
    rcases e2 with e2 | ⟨e2, rfl⟩
    · go_wp2_with fail
      go_meet
      case rel => exact ⟨rfl, rfl⟩
    · have e3 := str_eq
      go_wp2_with fail
      go_meet
      case rel => exact ⟨rfl, rfl⟩
  case rest =>
  obtain ⟨rfl, hwc⟩ := hcut
  rw [hwc]
  clear hwc a1' e1 e2
  have HNW : Hid (Calls Try.prog 20 #[.int .i64 line] w6 _) := new_no w6 hl
  clear hl
  go_wp2_with fail
  refine HNW.out.mono ?_
  rintro e wx ⟨rfl, hwx⟩
  rw [hwx]
  clear hwx HNW
  go_wp2_with fail
  go_ret2
  exact ⟨rfl, HLO.out⟩
set_option maxRecDepth 8000 in
set_option maxHeartbeats 4000000 in
theorem new_invB {w : World} {P : Nat → Prop} {Bd K : Nat} {d : Dk} (hd : Dsk P w Bd d K) (p1 p2 : ByteArray) (hp1 : p1.size ≤ maxLen) (hp2 : p2.size ≤ maxLen) (line : Nat) (chunk : Int) (m : Mrk)
    (hgo : err d p1 ≠ 140 ∧ (err d p2 ≠ 140 ∨ p2 = ⟨#[]⟩)) (hl : line ≤ 4096) (hb : line = 0 ∨ (1 ≤ line ∧ (chunk < 1 ∨ (1 ≤ chunk ∧ 4096 < chunk)))) :
    Calls Try.prog 8 #[pathV p1 p2, .int .i64 (line : Nat), .int .i64 chunk, mrkBox m, .pointer (some ⟨Bd, 0, none⟩)] w fun e w' => e = .returned (.tuple #[.pointer none, .int .i64 1]) ∧ Below w.heap.size w w' := by
  unfold pathV mrkBox
  obtain ⟨w1, hw1⟩ : ∃ w1, w.alloc (.cells #[.string p1, .string p2] 29) = w1 := ⟨_, rfl⟩
  obtain ⟨A, hA⟩ : ∃ A, w.heap.size = A := ⟨_, rfl⟩
  have k1 : Below w.heap.size w w1 := by rw [← hw1]; exact (Below.refl _ _).alloc (Nat.le_refl _) _
  have h1 : w1.heap[A]? = some (.cells #[.string p1, .string p2] 29 (0, 0)) := by rw [← hw1, ← hA]; exact heap_alloc_new w _
  obtain ⟨w2, hw2⟩ : ∃ w2, w1.alloc (.cells #[.int .i64 m.s, .int .i64 m.n, .int .i64 m.g, .int .i64 m.o, .int .i64 m.ms, .int .i64 m.gn, .int .i64 m.ct, .int .i64 m.tl, .int .i64 m.lg] 37) = w2 := ⟨_, rfl⟩
  obtain ⟨A2, hA2⟩ : ∃ A, w1.heap.size = A := ⟨_, rfl⟩
  have k2 : Below w1.heap.size w1 w2 := by rw [← hw2]; exact (Below.refl _ _).alloc (Nat.le_refl _) _
  have h2 : w2.heap[A2]? = some (.cells #[.int .i64 m.s, .int .i64 m.n, .int .i64 m.g, .int .i64 m.o, .int .i64 m.ms, .int .i64 m.gn, .int .i64 m.ct, .int .i64 m.tl, .int .i64 m.lg] 37 (0, 0)) := by rw [← hw2, ← hA2]; exact heap_alloc_new w1 _
  have h12 := (k2.block A (Array.getElem?_eq_some_iff.1 h1).1).trans h1
  have k12 : Below w.heap.size w w2 := below_step k1 k2
  have HW1 : Hid (w.alloc (.cells #[.string p1, .string p2] 29) = w1 ∧ w.heap.size = A) := ⟨hw1, hA⟩
  have HW2 : Hid (w1.alloc (.cells #[.int .i64 m.s, .int .i64 m.n, .int .i64 m.g, .int .i64 m.o, .int .i64 m.ms, .int .i64 m.gn, .int .i64 m.ct, .int .i64 m.tl, .int .i64 m.lg] 37) = w2 ∧ A + 1 = A2) := ⟨hw2, by rw [← hA2, ← hw1, ← hA]; simp⟩
  obtain ⟨q1, g1, z1, hs1⟩ := stat_num hd.wf p1
  obtain ⟨q2, g2, z2, hs2⟩ := stat_num hd.wf p2
  have HS1 : Hid (∀ u, Below w.heap.size w u → Calls Try.prog 19 #[.pointer (some ⟨Bd, 0, none⟩), .string p1] u fun e w' => e = .returned (.tuple #[statV (inoOf d p1) q1 g1 z1, .int .i64 (err d p1 : Nat)]) ∧ Below u.heap.size u w') := fun u hu => by
    have := stat_any (hd.later hu) p1 hp1
    rw [hs1] at this
    exact this
  have HS2 : Hid (∀ u, Below w.heap.size w u → Calls Try.prog 19 #[.pointer (some ⟨Bd, 0, none⟩), .string p2] u fun e w' => e = .returned (.tuple #[statV (inoOf d p2) q2 g2 z2, .int .i64 (err d p2 : Nat)]) ∧ Below u.heap.size u w') := fun u hu => by
    have := stat_any (hd.later hu) p2 hp2
    rw [hs2] at this
    exact this
  have HSC : Hid (Calls Try.prog 19 #[.pointer (some ⟨Bd, 0, none⟩), .string p1] w2 _) := HS1.out w2 k12
  have HB : Hid (Below w.heap.size w w2 ∧ w2.heap[A]? = some (.cells #[.string p1, .string p2] 29 (0, 0)) ∧ w2.heap[A2]? = some (.cells #[.int .i64 m.s, .int .i64 m.n, .int .i64 m.g, .int .i64 m.o, .int .i64 m.ms, .int .i64 m.gn, .int .i64 m.ct, .int .i64 m.tl, .int .i64 m.lg] 37 (0, 0))) := ⟨k12, h12, h2⟩
  obtain ⟨n1, hn1⟩ : ∃ n1, inoOf d p1 = n1 := ⟨_, rfl⟩
  obtain ⟨n2, hn2⟩ : ∃ n2, inoOf d p2 = n2 := ⟨_, rfl⟩
  obtain ⟨x1, hx1⟩ : ∃ x1, err d p1 = x1 := ⟨_, rfl⟩
  obtain ⟨x2, hx2⟩ : ∃ x2, err d p2 = x2 := ⟨_, rfl⟩
  have HN : Hid (inoOf d p1 = n1 ∧ inoOf d p2 = n2) := ⟨hn1, hn2⟩
  rw [hn1, hx1] at HSC HS1
  rw [hn2, hx2] at HS2
  unfold statV at HSC HS1 HS2
  have a0 : w2.cell? ⟨A, 0, none⟩ = some (.string p1) := by simp [World.cell?, h12]
  have e1 : ((x1 : Int) == 140) = false := by rw [← hx1]; simp; omega
  have e2 : ((x2 : Int) == 140) = false ∨ (((x2 : Int) == 140) = true ∧ p2 = ⟨#[]⟩) := by
    rw [← hx2]
    rcases hgo.2 with y | y
    · left; simp; omega
    · by_cases z : err d p2 = 140
      · right; rw [z]; exact ⟨rfl, y⟩
      · left; simp; omega
  clear hgo
  clear hd hw1 hA k1 h1 hw2 hA2 k2 h2 h12 k12 hs1 hs2 hn1 hn2 hx1 hx2 hp1 hp2
  go_enter Try.func8, Try.ntmps8
  go_upto_region 1 with fail
  rw [HW1.out.1, HW1.out.2, HW2.out.1, HW2.out.2]
  clear HW1 HW2 HS1
  go_wp2_with fail
  refine HSC.out.mono ?_
  rintro e w3 ⟨rfl, k3⟩
  obtain ⟨w4, hw4⟩ : ∃ w4, w3.alloc (.cells #[.int .i64 (n1 : Nat), .int .i64 (q1 : Nat), .int .i64 (g1 : Nat), .int .i64 (z1 : Nat)] 64) = w4 := ⟨_, rfl⟩
  obtain ⟨A4, hA4⟩ : ∃ A, w3.heap.size = A := ⟨_, rfl⟩
  have k4 : Below w3.heap.size w3 w4 := by rw [← hw4]; exact (Below.refl _ _).alloc (Nat.le_refl _) _
  have k24 : Below w2.heap.size w2 w4 := below_step k3 k4
  have st4 : StatB w4 A4 (.int .i64 (n1 : Nat)) (.int .i64 (q1 : Nat)) (.int .i64 (g1 : Nat)) (.int .i64 (z1 : Nat)) := by rw [← hw4, ← hA4]; exact heap_alloc_new w3 _
  have HW4 : Hid (w3.alloc (.cells #[.int .i64 (n1 : Nat), .int .i64 (q1 : Nat), .int .i64 (g1 : Nat), .int .i64 (z1 : Nat)] 64) = w4 ∧ w3.heap.size = A4) := ⟨hw4, hA4⟩
  have HK4 : Hid (Below w2.heap.size w2 w4 ∧ StatB w4 A4 (.int .i64 (n1 : Nat)) (.int .i64 (q1 : Nat)) (.int .i64 (g1 : Nat)) (.int .i64 (z1 : Nat))) := ⟨k24, st4⟩
  have HSD : Hid (Calls Try.prog 19 #[.pointer (some ⟨Bd, 0, none⟩), .string p2] w4 _) := HS2.out w4 (below_step HB.out.1 k24)
  have a1 : w4.cell? ⟨A, 1, none⟩ = some (.string p2) := cell_later k24 _ _ _ (by simp [World.cell?, HB.out.2.1])
  clear k3 hw4 hA4 k4 k24 st4 HSC HS2 a0
  go_upto_region 2 with fail
  rw [HW4.out.1, HW4.out.2]
  clear HW4
  go_wp2_with fail
  refine HSD.out.mono ?_
  rintro e w5 ⟨rfl, k5⟩
  obtain ⟨w6, hw6⟩ : ∃ w6, w5.alloc (.cells #[.int .i64 (n2 : Nat), .int .i64 (q2 : Nat), .int .i64 (g2 : Nat), .int .i64 (z2 : Nat)] 64) = w6 := ⟨_, rfl⟩
  obtain ⟨A6, hA6⟩ : ∃ A, w5.heap.size = A := ⟨_, rfl⟩
  have k6 : Below w5.heap.size w5 w6 := by rw [← hw6]; exact (Below.refl _ _).alloc (Nat.le_refl _) _
  have k46 : Below w4.heap.size w4 w6 := below_step k5 k6
  have st6 : StatB w6 A6 (.int .i64 (n2 : Nat)) (.int .i64 (q2 : Nat)) (.int .i64 (g2 : Nat)) (.int .i64 (z2 : Nat)) := by rw [← hw6, ← hA6]; exact heap_alloc_new w5 _
  have HW6 : Hid (w5.alloc (.cells #[.int .i64 (n2 : Nat), .int .i64 (q2 : Nat), .int .i64 (g2 : Nat), .int .i64 (z2 : Nat)] 64) = w6 ∧ w5.heap.size = A6) := ⟨hw6, hA6⟩
  have HK6 : Hid (Below w2.heap.size w2 w6 ∧ StatB w6 A4 (.int .i64 (n1 : Nat)) (.int .i64 (q1 : Nat)) (.int .i64 (g1 : Nat)) (.int .i64 (z1 : Nat)) ∧ StatB w6 A6 (.int .i64 (n2 : Nat)) (.int .i64 (q2 : Nat)) (.int .i64 (g2 : Nat)) (.int .i64 (z2 : Nat))) := ⟨below_step HK4.out.1 k46, (k46.block A4 (Array.getElem?_eq_some_iff.1 HK4.out.2).1).trans HK4.out.2, st6⟩
  have a1' : w6.cell? ⟨A, 1, none⟩ = some (.string p2) := cell_later k46 _ _ _ a1
  clear k5 hw6 hA6 k6 k46 st6 HSD HK4 a1
  go_upto_region 3 with fail
  rw [HW6.out.1, HW6.out.2]
  clear HW6
  have HLO : Hid (Below w.heap.size w w6) := below_step HB.out.1 HK6.out.1
  go_cut [44] from 34 to 44 (fun v wx => v = .bool false ∧ wx = w6)
  case first =>
    rcases e2 with e2 | ⟨e2, rfl⟩
    · go_wp2_with fail
      go_meet
      case rel => exact ⟨rfl, rfl⟩
    · have e3 := str_eq
      go_wp2_with fail
      go_meet
      case rel => exact ⟨rfl, rfl⟩
  case rest =>
  obtain ⟨rfl, hwc⟩ := hcut
  rw [hwc]
  clear hwc a1' e1 e2
  have HNW : Hid (Calls Try.prog 20 #[.int .i64 (line : Nat)] w6 _) := new_yes w6 hl
  clear hl
  go_upto_region 5 with fail
  go_wp2_with fail
  refine HNW.out.mono ?_
  rintro e w7 ⟨rfl, _, k7⟩
  have HL7 : Hid (Below w.heap.size w w7) := below_step HLO.out k7
  clear k7 HNW
  rcases hb with hb | ⟨h1, hb | ⟨h2, hb⟩⟩
  · have l1 : (line : Int) < 1 := by omega
    clear hb
    go_wp2_with fail
    go_ret2
    exact ⟨rfl, HL7.out⟩
  · have l1 : decide ((line : Int) < 1) = false := decide_eq_false (by omega)
    clear h1
    go_wp2_with fail
    go_ret2
    exact ⟨rfl, HL7.out⟩
  · have l1 : decide ((line : Int) < 1) = false := decide_eq_false (by omega)
    have l2 : decide (chunk < 1) = false := decide_eq_false (by omega)
    clear h1
    go_wp2_with fail
    go_ret2
    exact ⟨rfl, HL7.out⟩
set_option maxRecDepth 8000 in
set_option maxHeartbeats 4000000 in
theorem new_invC {w : World} {P : Nat → Prop} {Bd K : Nat} {d : Dk} (hd : Dsk P w Bd d K) (p1 p2 : ByteArray) (hp1 : p1.size ≤ maxLen) (hp2 : p2.size ≤ maxLen) (line chunk : Nat) (m : Mrk)
    (hgo : err d p1 ≠ 140 ∧ (err d p2 ≠ 140 ∨ p2 = ⟨#[]⟩)) (hl : 1 ≤ line ∧ line ≤ 4096) (hc : 1 ≤ chunk ∧ chunk ≤ 4096) (hm : mayB m = false) :
    Calls Try.prog 8 #[pathV p1 p2, .int .i64 (line : Nat), .int .i64 (chunk : Nat), mrkBox m, .pointer (some ⟨Bd, 0, none⟩)] w fun e w' => e = .returned (.tuple #[.pointer none, .int .i64 1]) ∧ Below w.heap.size w w' := by
  unfold pathV mrkBox
  obtain ⟨w1, hw1⟩ : ∃ w1, w.alloc (.cells #[.string p1, .string p2] 29) = w1 := ⟨_, rfl⟩
  obtain ⟨A, hA⟩ : ∃ A, w.heap.size = A := ⟨_, rfl⟩
  have k1 : Below w.heap.size w w1 := by rw [← hw1]; exact (Below.refl _ _).alloc (Nat.le_refl _) _
  have h1 : w1.heap[A]? = some (.cells #[.string p1, .string p2] 29 (0, 0)) := by rw [← hw1, ← hA]; exact heap_alloc_new w _
  obtain ⟨w2, hw2⟩ : ∃ w2, w1.alloc (.cells #[.int .i64 m.s, .int .i64 m.n, .int .i64 m.g, .int .i64 m.o, .int .i64 m.ms, .int .i64 m.gn, .int .i64 m.ct, .int .i64 m.tl, .int .i64 m.lg] 37) = w2 := ⟨_, rfl⟩
  obtain ⟨A2, hA2⟩ : ∃ A, w1.heap.size = A := ⟨_, rfl⟩
  have k2 : Below w1.heap.size w1 w2 := by rw [← hw2]; exact (Below.refl _ _).alloc (Nat.le_refl _) _
  have h2 : w2.heap[A2]? = some (.cells #[.int .i64 m.s, .int .i64 m.n, .int .i64 m.g, .int .i64 m.o, .int .i64 m.ms, .int .i64 m.gn, .int .i64 m.ct, .int .i64 m.tl, .int .i64 m.lg] 37 (0, 0)) := by rw [← hw2, ← hA2]; exact heap_alloc_new w1 _
  have h12 := (k2.block A (Array.getElem?_eq_some_iff.1 h1).1).trans h1
  have k12 : Below w.heap.size w w2 := below_step k1 k2
  have HW1 : Hid (w.alloc (.cells #[.string p1, .string p2] 29) = w1 ∧ w.heap.size = A) := ⟨hw1, hA⟩
  have HW2 : Hid (w1.alloc (.cells #[.int .i64 m.s, .int .i64 m.n, .int .i64 m.g, .int .i64 m.o, .int .i64 m.ms, .int .i64 m.gn, .int .i64 m.ct, .int .i64 m.tl, .int .i64 m.lg] 37) = w2 ∧ A + 1 = A2) := ⟨hw2, by rw [← hA2, ← hw1, ← hA]; simp⟩
  obtain ⟨q1, g1, z1, hs1⟩ := stat_num hd.wf p1
  obtain ⟨q2, g2, z2, hs2⟩ := stat_num hd.wf p2
  have HS1 : Hid (∀ u, Below w.heap.size w u → Calls Try.prog 19 #[.pointer (some ⟨Bd, 0, none⟩), .string p1] u fun e w' => e = .returned (.tuple #[statV (inoOf d p1) q1 g1 z1, .int .i64 (err d p1 : Nat)]) ∧ Below u.heap.size u w') := fun u hu => by
    have := stat_any (hd.later hu) p1 hp1
    rw [hs1] at this
    exact this
  have HS2 : Hid (∀ u, Below w.heap.size w u → Calls Try.prog 19 #[.pointer (some ⟨Bd, 0, none⟩), .string p2] u fun e w' => e = .returned (.tuple #[statV (inoOf d p2) q2 g2 z2, .int .i64 (err d p2 : Nat)]) ∧ Below u.heap.size u w') := fun u hu => by
    have := stat_any (hd.later hu) p2 hp2
    rw [hs2] at this
    exact this
  have HSC : Hid (Calls Try.prog 19 #[.pointer (some ⟨Bd, 0, none⟩), .string p1] w2 _) := HS1.out w2 k12
  have HB : Hid (Below w.heap.size w w2 ∧ w2.heap[A]? = some (.cells #[.string p1, .string p2] 29 (0, 0)) ∧ w2.heap[A2]? = some (.cells #[.int .i64 m.s, .int .i64 m.n, .int .i64 m.g, .int .i64 m.o, .int .i64 m.ms, .int .i64 m.gn, .int .i64 m.ct, .int .i64 m.tl, .int .i64 m.lg] 37 (0, 0))) := ⟨k12, h12, h2⟩
  obtain ⟨n1, hn1⟩ : ∃ n1, inoOf d p1 = n1 := ⟨_, rfl⟩
  obtain ⟨n2, hn2⟩ : ∃ n2, inoOf d p2 = n2 := ⟨_, rfl⟩
  obtain ⟨x1, hx1⟩ : ∃ x1, err d p1 = x1 := ⟨_, rfl⟩
  obtain ⟨x2, hx2⟩ : ∃ x2, err d p2 = x2 := ⟨_, rfl⟩
  have HN : Hid (inoOf d p1 = n1 ∧ inoOf d p2 = n2) := ⟨hn1, hn2⟩
  rw [hn1, hx1] at HSC HS1
  rw [hn2, hx2] at HS2
  unfold statV at HSC HS1 HS2
  have a0 : w2.cell? ⟨A, 0, none⟩ = some (.string p1) := by simp [World.cell?, h12]
  have e1 : ((x1 : Int) == 140) = false := by rw [← hx1]; simp; omega
  have e2 : ((x2 : Int) == 140) = false ∨ (((x2 : Int) == 140) = true ∧ p2 = ⟨#[]⟩) := by
    rw [← hx2]
    rcases hgo.2 with y | y
    · left; simp; omega
    · by_cases z : err d p2 = 140
      · right; rw [z]; exact ⟨rfl, y⟩
      · left; simp; omega
  clear hgo
  clear hd hw1 hA k1 h1 hw2 hA2 k2 h2 h12 k12 hs1 hs2 hn1 hn2 hx1 hx2 hp1 hp2
  go_enter Try.func8, Try.ntmps8
  go_upto_region 1 with fail
  rw [HW1.out.1, HW1.out.2, HW2.out.1, HW2.out.2]
  clear HW1 HW2 HS1
  go_wp2_with fail
  refine HSC.out.mono ?_
  rintro e w3 ⟨rfl, k3⟩
  obtain ⟨w4, hw4⟩ : ∃ w4, w3.alloc (.cells #[.int .i64 (n1 : Nat), .int .i64 (q1 : Nat), .int .i64 (g1 : Nat), .int .i64 (z1 : Nat)] 64) = w4 := ⟨_, rfl⟩
  obtain ⟨A4, hA4⟩ : ∃ A, w3.heap.size = A := ⟨_, rfl⟩
  have k4 : Below w3.heap.size w3 w4 := by rw [← hw4]; exact (Below.refl _ _).alloc (Nat.le_refl _) _
  have k24 : Below w2.heap.size w2 w4 := below_step k3 k4
  have st4 : StatB w4 A4 (.int .i64 (n1 : Nat)) (.int .i64 (q1 : Nat)) (.int .i64 (g1 : Nat)) (.int .i64 (z1 : Nat)) := by rw [← hw4, ← hA4]; exact heap_alloc_new w3 _
  have HW4 : Hid (w3.alloc (.cells #[.int .i64 (n1 : Nat), .int .i64 (q1 : Nat), .int .i64 (g1 : Nat), .int .i64 (z1 : Nat)] 64) = w4 ∧ w3.heap.size = A4) := ⟨hw4, hA4⟩
  have HK4 : Hid (Below w2.heap.size w2 w4 ∧ StatB w4 A4 (.int .i64 (n1 : Nat)) (.int .i64 (q1 : Nat)) (.int .i64 (g1 : Nat)) (.int .i64 (z1 : Nat))) := ⟨k24, st4⟩
  have HSD : Hid (Calls Try.prog 19 #[.pointer (some ⟨Bd, 0, none⟩), .string p2] w4 _) := HS2.out w4 (below_step HB.out.1 k24)
  have a1 : w4.cell? ⟨A, 1, none⟩ = some (.string p2) := cell_later k24 _ _ _ (by simp [World.cell?, HB.out.2.1])
  clear k3 hw4 hA4 k4 k24 st4 HSC HS2 a0
  go_upto_region 2 with fail
  rw [HW4.out.1, HW4.out.2]
  clear HW4
  go_wp2_with fail
  refine HSD.out.mono ?_
  rintro e w5 ⟨rfl, k5⟩
  obtain ⟨w6, hw6⟩ : ∃ w6, w5.alloc (.cells #[.int .i64 (n2 : Nat), .int .i64 (q2 : Nat), .int .i64 (g2 : Nat), .int .i64 (z2 : Nat)] 64) = w6 := ⟨_, rfl⟩
  obtain ⟨A6, hA6⟩ : ∃ A, w5.heap.size = A := ⟨_, rfl⟩
  have k6 : Below w5.heap.size w5 w6 := by rw [← hw6]; exact (Below.refl _ _).alloc (Nat.le_refl _) _
  have k46 : Below w4.heap.size w4 w6 := below_step k5 k6
  have st6 : StatB w6 A6 (.int .i64 (n2 : Nat)) (.int .i64 (q2 : Nat)) (.int .i64 (g2 : Nat)) (.int .i64 (z2 : Nat)) := by rw [← hw6, ← hA6]; exact heap_alloc_new w5 _
  have HW6 : Hid (w5.alloc (.cells #[.int .i64 (n2 : Nat), .int .i64 (q2 : Nat), .int .i64 (g2 : Nat), .int .i64 (z2 : Nat)] 64) = w6 ∧ w5.heap.size = A6) := ⟨hw6, hA6⟩
  have HK6 : Hid (Below w2.heap.size w2 w6 ∧ StatB w6 A4 (.int .i64 (n1 : Nat)) (.int .i64 (q1 : Nat)) (.int .i64 (g1 : Nat)) (.int .i64 (z1 : Nat)) ∧ StatB w6 A6 (.int .i64 (n2 : Nat)) (.int .i64 (q2 : Nat)) (.int .i64 (g2 : Nat)) (.int .i64 (z2 : Nat))) := ⟨below_step HK4.out.1 k46, (k46.block A4 (Array.getElem?_eq_some_iff.1 HK4.out.2).1).trans HK4.out.2, st6⟩
  have a1' : w6.cell? ⟨A, 1, none⟩ = some (.string p2) := cell_later k46 _ _ _ a1
  clear k5 hw6 hA6 k6 k46 st6 HSD HK4 a1
  go_upto_region 3 with fail
  rw [HW6.out.1, HW6.out.2]
  clear HW6
  have HLO : Hid (Below w.heap.size w w6) := below_step HB.out.1 HK6.out.1
  go_cut [44] from 34 to 44 (fun v wx => v = .bool false ∧ wx = w6)
  case first =>
    rcases e2 with e2 | ⟨e2, rfl⟩
    · go_wp2_with fail
      go_meet
      case rel => exact ⟨rfl, rfl⟩
    · have e3 := str_eq
      go_wp2_with fail
      go_meet
      case rel => exact ⟨rfl, rfl⟩
  case rest =>
  obtain ⟨rfl, hwc⟩ := hcut
  rw [hwc]
  clear hwc a1' e1 e2
  have HNW : Hid (Calls Try.prog 20 #[.int .i64 (line : Nat)] w6 _) := new_yes w6 hl.2
  have l1 : decide ((line : Int) < 1) = false := decide_eq_false (by omega)
  have l2 : decide ((chunk : Int) < 1) = false := decide_eq_false (by omega)
  have l3 : decide ((4096 : Int) < (chunk : Int)) = false := decide_eq_false (by omega)
  have HLC : Hid ((1 ≤ line ∧ line ≤ 4096) ∧ 1 ≤ chunk ∧ chunk ≤ 4096) := ⟨hl, hc⟩
  clear hl hc
  go_upto_region 5 with fail
  go_wp2_with fail
  refine HNW.out.mono ?_
  rintro e w7 ⟨rfl, m7, k7⟩
  obtain ⟨B, hB⟩ : ∃ B, w6.heap.size = B := ⟨_, rfl⟩
  rw [hB] at m7 ⊢
  have HM7 : Hid (MkAt w7 B (.slice none 0 0) (mk0 line) ∧ Below w6.heap.size w6 w7 ∧ w6.heap.size = B) := ⟨m7, k7, hB⟩
  have HL7 : Hid (Below w2.heap.size w2 w7) := below_step HK6.out.1 k7
  have HMB : Hid (Calls Try.prog 21 #[.agg #[.int .i64 m.s, .int .i64 m.n, .int .i64 m.g, .int .i64 m.o, .int .i64 m.ms, .int .i64 m.gn, .int .i64 m.ct, .int .i64 m.tl, .int .i64 m.lg]] w7 _) := mayBe_fn m w7
  have b0 : w7.cell? ⟨A2, 0, none⟩ = some (.int .i64 m.s) := cell_later HL7.out _ _ _ (by simp [World.cell?, HB.out.2.2])
  have b1 : w7.cell? ⟨A2, 1, none⟩ = some (.int .i64 m.n) := cell_later HL7.out _ _ _ (by simp [World.cell?, HB.out.2.2])
  have b2 : w7.cell? ⟨A2, 2, none⟩ = some (.int .i64 m.g) := cell_later HL7.out _ _ _ (by simp [World.cell?, HB.out.2.2])
  have b3 : w7.cell? ⟨A2, 3, none⟩ = some (.int .i64 m.o) := cell_later HL7.out _ _ _ (by simp [World.cell?, HB.out.2.2])
  have b4 : w7.cell? ⟨A2, 4, none⟩ = some (.int .i64 m.ms) := cell_later HL7.out _ _ _ (by simp [World.cell?, HB.out.2.2])
  have b5 : w7.cell? ⟨A2, 5, none⟩ = some (.int .i64 m.gn) := cell_later HL7.out _ _ _ (by simp [World.cell?, HB.out.2.2])
  have b6 : w7.cell? ⟨A2, 6, none⟩ = some (.int .i64 m.ct) := cell_later HL7.out _ _ _ (by simp [World.cell?, HB.out.2.2])
  have b7 : w7.cell? ⟨A2, 7, none⟩ = some (.int .i64 m.tl) := cell_later HL7.out _ _ _ (by simp [World.cell?, HB.out.2.2])
  have b8 : w7.cell? ⟨A2, 8, none⟩ = some (.int .i64 m.lg) := cell_later HL7.out _ _ _ (by simp [World.cell?, HB.out.2.2])
  clear m7 k7 hB HNW
  go_wp2_with fail
  refine HMB.out.mono ?_
  rintro e w8 ⟨rfl, k8⟩
  have HL8 : Hid (Below w.heap.size w w8) := below_step (below_step HB.out.1 HL7.out) k8
  rw [hm]
  clear k8 HMB hm
  go_wp2_with fail
  go_ret2
  exact ⟨rfl, HL8.out⟩
set_option maxRecDepth 8000 in
set_option maxHeartbeats 4000000 in
theorem new_ok {w : World} {P : Nat → Prop} {Bd K : Nat} {d : Dk} (hd : Dsk P w Bd d K) (p1 p2 : ByteArray) (hp1 : p1.size ≤ maxLen) (hp2 : p2.size ≤ maxLen) (line chunk : Nat) (m : Mrk)
    (hgo : err d p1 ≠ 140 ∧ (err d p2 ≠ 140 ∨ p2 = ⟨#[]⟩)) (hl : 1 ≤ line ∧ line ≤ 4096) (hc : 1 ≤ chunk ∧ chunk ≤ 4096) (hm : mayB m = true) :
    Calls Try.prog 8 #[pathV p1 p2, .int .i64 (line : Nat), .int .i64 (chunk : Nat), mrkBox m, .pointer (some ⟨Bd, 0, none⟩)] w fun e w' => ∃ F B, e = .returned (.tuple #[.pointer (some ⟨F, 0, none⟩), .int .i64 0]) ∧ Nf w F B (madeF p1 p2 line chunk m d) w' := by
  unfold pathV mrkBox
  obtain ⟨w1, hw1⟩ : ∃ w1, w.alloc (.cells #[.string p1, .string p2] 29) = w1 := ⟨_, rfl⟩
  obtain ⟨A, hA⟩ : ∃ A, w.heap.size = A := ⟨_, rfl⟩
  have k1 : Below w.heap.size w w1 := by rw [← hw1]; exact (Below.refl _ _).alloc (Nat.le_refl _) _
  have h1 : w1.heap[A]? = some (.cells #[.string p1, .string p2] 29 (0, 0)) := by rw [← hw1, ← hA]; exact heap_alloc_new w _
  obtain ⟨w2, hw2⟩ : ∃ w2, w1.alloc (.cells #[.int .i64 m.s, .int .i64 m.n, .int .i64 m.g, .int .i64 m.o, .int .i64 m.ms, .int .i64 m.gn, .int .i64 m.ct, .int .i64 m.tl, .int .i64 m.lg] 37) = w2 := ⟨_, rfl⟩
  obtain ⟨A2, hA2⟩ : ∃ A, w1.heap.size = A := ⟨_, rfl⟩
  have k2 : Below w1.heap.size w1 w2 := by rw [← hw2]; exact (Below.refl _ _).alloc (Nat.le_refl _) _
  have h2 : w2.heap[A2]? = some (.cells #[.int .i64 m.s, .int .i64 m.n, .int .i64 m.g, .int .i64 m.o, .int .i64 m.ms, .int .i64 m.gn, .int .i64 m.ct, .int .i64 m.tl, .int .i64 m.lg] 37 (0, 0)) := by rw [← hw2, ← hA2]; exact heap_alloc_new w1 _
  have h12 := (k2.block A (Array.getElem?_eq_some_iff.1 h1).1).trans h1
  have k12 : Below w.heap.size w w2 := below_step k1 k2
  have HW1 : Hid (w.alloc (.cells #[.string p1, .string p2] 29) = w1 ∧ w.heap.size = A) := ⟨hw1, hA⟩
  have HW2 : Hid (w1.alloc (.cells #[.int .i64 m.s, .int .i64 m.n, .int .i64 m.g, .int .i64 m.o, .int .i64 m.ms, .int .i64 m.gn, .int .i64 m.ct, .int .i64 m.tl, .int .i64 m.lg] 37) = w2 ∧ A + 1 = A2) := ⟨hw2, by rw [← hA2, ← hw1, ← hA]; simp⟩
  obtain ⟨q1, g1, z1, hs1⟩ := stat_num hd.wf p1
  obtain ⟨q2, g2, z2, hs2⟩ := stat_num hd.wf p2
  have HS1 : Hid (∀ u, Below w.heap.size w u → Calls Try.prog 19 #[.pointer (some ⟨Bd, 0, none⟩), .string p1] u fun e w' => e = .returned (.tuple #[statV (inoOf d p1) q1 g1 z1, .int .i64 (err d p1 : Nat)]) ∧ Below u.heap.size u w') := fun u hu => by
    have := stat_any (hd.later hu) p1 hp1
    rw [hs1] at this
    exact this
  have HS2 : Hid (∀ u, Below w.heap.size w u → Calls Try.prog 19 #[.pointer (some ⟨Bd, 0, none⟩), .string p2] u fun e w' => e = .returned (.tuple #[statV (inoOf d p2) q2 g2 z2, .int .i64 (err d p2 : Nat)]) ∧ Below u.heap.size u w') := fun u hu => by
    have := stat_any (hd.later hu) p2 hp2
    rw [hs2] at this
    exact this
  have HSC : Hid (Calls Try.prog 19 #[.pointer (some ⟨Bd, 0, none⟩), .string p1] w2 _) := HS1.out w2 k12
  have HB : Hid (Below w.heap.size w w2 ∧ w2.heap[A]? = some (.cells #[.string p1, .string p2] 29 (0, 0)) ∧ w2.heap[A2]? = some (.cells #[.int .i64 m.s, .int .i64 m.n, .int .i64 m.g, .int .i64 m.o, .int .i64 m.ms, .int .i64 m.gn, .int .i64 m.ct, .int .i64 m.tl, .int .i64 m.lg] 37 (0, 0))) := ⟨k12, h12, h2⟩
  obtain ⟨n1, hn1⟩ : ∃ n1, inoOf d p1 = n1 := ⟨_, rfl⟩
  obtain ⟨n2, hn2⟩ : ∃ n2, inoOf d p2 = n2 := ⟨_, rfl⟩
  obtain ⟨x1, hx1⟩ : ∃ x1, err d p1 = x1 := ⟨_, rfl⟩
  obtain ⟨x2, hx2⟩ : ∃ x2, err d p2 = x2 := ⟨_, rfl⟩
  have HN : Hid (inoOf d p1 = n1 ∧ inoOf d p2 = n2) := ⟨hn1, hn2⟩
  rw [hn1, hx1] at HSC HS1
  rw [hn2, hx2] at HS2
  unfold statV at HSC HS1 HS2
  have a0 : w2.cell? ⟨A, 0, none⟩ = some (.string p1) := by simp [World.cell?, h12]
  have HP1 : Hid (p1.size ≤ 32) := by
    have h1 := hgo.1
    unfold err at h1
    cases y : may p1 with
    | true => exact (may_size y).2
    | false => rw [y] at h1; simp at h1
  have e1 : ((x1 : Int) == 140) = false := by rw [← hx1]; simp; omega
  have e2 : ((x2 : Int) == 140) = false ∨ (((x2 : Int) == 140) = true ∧ p2 = ⟨#[]⟩) := by
    rw [← hx2]
    rcases hgo.2 with y | y
    · left; simp; omega
    · by_cases z : err d p2 = 140
      · right; rw [z]; exact ⟨rfl, y⟩
      · left; simp; omega
  clear hgo
  clear hd hw1 hA k1 h1 hw2 hA2 k2 h2 h12 k12 hs1 hs2 hn1 hn2 hx1 hx2 hp1 hp2
  go_enter Try.func8, Try.ntmps8
  go_upto_region 1 with fail
  rw [HW1.out.1, HW1.out.2, HW2.out.1, HW2.out.2]
  clear HW1 HW2 HS1
  go_wp2_with fail
  refine HSC.out.mono ?_
  rintro e w3 ⟨rfl, k3⟩
  obtain ⟨w4, hw4⟩ : ∃ w4, w3.alloc (.cells #[.int .i64 (n1 : Nat), .int .i64 (q1 : Nat), .int .i64 (g1 : Nat), .int .i64 (z1 : Nat)] 64) = w4 := ⟨_, rfl⟩
  obtain ⟨A4, hA4⟩ : ∃ A, w3.heap.size = A := ⟨_, rfl⟩
  have k4 : Below w3.heap.size w3 w4 := by rw [← hw4]; exact (Below.refl _ _).alloc (Nat.le_refl _) _
  have k24 : Below w2.heap.size w2 w4 := below_step k3 k4
  have st4 : StatB w4 A4 (.int .i64 (n1 : Nat)) (.int .i64 (q1 : Nat)) (.int .i64 (g1 : Nat)) (.int .i64 (z1 : Nat)) := by rw [← hw4, ← hA4]; exact heap_alloc_new w3 _
  have HW4 : Hid (w3.alloc (.cells #[.int .i64 (n1 : Nat), .int .i64 (q1 : Nat), .int .i64 (g1 : Nat), .int .i64 (z1 : Nat)] 64) = w4 ∧ w3.heap.size = A4) := ⟨hw4, hA4⟩
  have HK4 : Hid (Below w2.heap.size w2 w4 ∧ StatB w4 A4 (.int .i64 (n1 : Nat)) (.int .i64 (q1 : Nat)) (.int .i64 (g1 : Nat)) (.int .i64 (z1 : Nat))) := ⟨k24, st4⟩
  have HSD : Hid (Calls Try.prog 19 #[.pointer (some ⟨Bd, 0, none⟩), .string p2] w4 _) := HS2.out w4 (below_step HB.out.1 k24)
  have a1 : w4.cell? ⟨A, 1, none⟩ = some (.string p2) := cell_later k24 _ _ _ (by simp [World.cell?, HB.out.2.1])
  clear k3 hw4 hA4 k4 k24 st4 HSC HS2 a0
  go_upto_region 2 with fail
  rw [HW4.out.1, HW4.out.2]
  clear HW4
  go_wp2_with fail
  refine HSD.out.mono ?_
  rintro e w5 ⟨rfl, k5⟩
  obtain ⟨w6, hw6⟩ : ∃ w6, w5.alloc (.cells #[.int .i64 (n2 : Nat), .int .i64 (q2 : Nat), .int .i64 (g2 : Nat), .int .i64 (z2 : Nat)] 64) = w6 := ⟨_, rfl⟩
  obtain ⟨A6, hA6⟩ : ∃ A, w5.heap.size = A := ⟨_, rfl⟩
  have k6 : Below w5.heap.size w5 w6 := by rw [← hw6]; exact (Below.refl _ _).alloc (Nat.le_refl _) _
  have k46 : Below w4.heap.size w4 w6 := below_step k5 k6
  have st6 : StatB w6 A6 (.int .i64 (n2 : Nat)) (.int .i64 (q2 : Nat)) (.int .i64 (g2 : Nat)) (.int .i64 (z2 : Nat)) := by rw [← hw6, ← hA6]; exact heap_alloc_new w5 _
  have HW6 : Hid (w5.alloc (.cells #[.int .i64 (n2 : Nat), .int .i64 (q2 : Nat), .int .i64 (g2 : Nat), .int .i64 (z2 : Nat)] 64) = w6 ∧ w5.heap.size = A6) := ⟨hw6, hA6⟩
  have HK6 : Hid (Below w2.heap.size w2 w6 ∧ StatB w6 A4 (.int .i64 (n1 : Nat)) (.int .i64 (q1 : Nat)) (.int .i64 (g1 : Nat)) (.int .i64 (z1 : Nat)) ∧ StatB w6 A6 (.int .i64 (n2 : Nat)) (.int .i64 (q2 : Nat)) (.int .i64 (g2 : Nat)) (.int .i64 (z2 : Nat))) := ⟨below_step HK4.out.1 k46, (k46.block A4 (Array.getElem?_eq_some_iff.1 HK4.out.2).1).trans HK4.out.2, st6⟩
  have a1' : w6.cell? ⟨A, 1, none⟩ = some (.string p2) := cell_later k46 _ _ _ a1
  clear k5 hw6 hA6 k6 k46 st6 HSD HK4 a1
  go_upto_region 3 with fail
  rw [HW6.out.1, HW6.out.2]
  clear HW6
  have HLO : Hid (Below w.heap.size w w6) := below_step HB.out.1 HK6.out.1
  go_cut [44] from 34 to 44 (fun v wx => v = .bool false ∧ wx = w6)
  case first =>
    rcases e2 with e2 | ⟨e2, rfl⟩
    · go_wp2_with fail
      go_meet
      case rel => exact ⟨rfl, rfl⟩
    · have e3 := str_eq
      go_wp2_with fail
      go_meet
      case rel => exact ⟨rfl, rfl⟩
  case rest =>
  obtain ⟨rfl, hwc⟩ := hcut
  rw [hwc]
  clear hwc a1' e1 e2
  have HNW : Hid (Calls Try.prog 20 #[.int .i64 (line : Nat)] w6 _) := new_yes w6 hl.2
  have l1 : decide ((line : Int) < 1) = false := decide_eq_false (by omega)
  have l2 : decide ((chunk : Int) < 1) = false := decide_eq_false (by omega)
  have l3 : decide ((4096 : Int) < (chunk : Int)) = false := decide_eq_false (by omega)
  have HLC : Hid ((1 ≤ line ∧ line ≤ 4096) ∧ 1 ≤ chunk ∧ chunk ≤ 4096) := ⟨hl, hc⟩
  clear hl hc
  go_upto_region 5 with fail
  go_wp2_with fail
  refine HNW.out.mono ?_
  rintro e w7 ⟨rfl, m7, k7⟩
  obtain ⟨B, hB⟩ : ∃ B, w6.heap.size = B := ⟨_, rfl⟩
  rw [hB] at m7 ⊢
  have HM7 : Hid (MkAt w7 B (.slice none 0 0) (mk0 line) ∧ Below w6.heap.size w6 w7 ∧ w6.heap.size = B) := ⟨m7, k7, hB⟩
  have HL7 : Hid (Below w2.heap.size w2 w7) := below_step HK6.out.1 k7
  have HMB : Hid (Calls Try.prog 21 #[.agg #[.int .i64 m.s, .int .i64 m.n, .int .i64 m.g, .int .i64 m.o, .int .i64 m.ms, .int .i64 m.gn, .int .i64 m.ct, .int .i64 m.tl, .int .i64 m.lg]] w7 _) := mayBe_fn m w7
  have b0 : w7.cell? ⟨A2, 0, none⟩ = some (.int .i64 m.s) := cell_later HL7.out _ _ _ (by simp [World.cell?, HB.out.2.2])
  have b1 : w7.cell? ⟨A2, 1, none⟩ = some (.int .i64 m.n) := cell_later HL7.out _ _ _ (by simp [World.cell?, HB.out.2.2])
  have b2 : w7.cell? ⟨A2, 2, none⟩ = some (.int .i64 m.g) := cell_later HL7.out _ _ _ (by simp [World.cell?, HB.out.2.2])
  have b3 : w7.cell? ⟨A2, 3, none⟩ = some (.int .i64 m.o) := cell_later HL7.out _ _ _ (by simp [World.cell?, HB.out.2.2])
  have b4 : w7.cell? ⟨A2, 4, none⟩ = some (.int .i64 m.ms) := cell_later HL7.out _ _ _ (by simp [World.cell?, HB.out.2.2])
  have b5 : w7.cell? ⟨A2, 5, none⟩ = some (.int .i64 m.gn) := cell_later HL7.out _ _ _ (by simp [World.cell?, HB.out.2.2])
  have b6 : w7.cell? ⟨A2, 6, none⟩ = some (.int .i64 m.ct) := cell_later HL7.out _ _ _ (by simp [World.cell?, HB.out.2.2])
  have b7 : w7.cell? ⟨A2, 7, none⟩ = some (.int .i64 m.tl) := cell_later HL7.out _ _ _ (by simp [World.cell?, HB.out.2.2])
  have b8 : w7.cell? ⟨A2, 8, none⟩ = some (.int .i64 m.lg) := cell_later HL7.out _ _ _ (by simp [World.cell?, HB.out.2.2])
  clear m7 k7 hB HNW
  go_wp2_with fail
  refine HMB.out.mono ?_
  rintro e w8 ⟨rfl, k8⟩
  have HL8 : Hid (Below w2.heap.size w2 w8 ∧ Below w7.heap.size w7 w8) := ⟨below_step HL7.out k8, k8⟩
  have HMM : Hid (mayB m = true) := hm
  have a0 : w8.cell? ⟨A, 0, none⟩ = some (.string p1) := cell_later HL8.out.1 _ _ _ (by simp [World.cell?, HB.out.2.1])
  have HCL : Hid (Calls Try.prog 22 #[.string p1] w8 _) := sclone_any p1 w8 (by have := HP1.out; omega)
  rw [hm]
  clear k8 HMB hm b0 b1 b2 b3 b4 b5 b6 b7 b8
  go_wp2_with fail
  refine HCL.out.mono ?_
  rintro e w9 ⟨rfl, k9⟩
  have HL9 : Hid (Below w2.heap.size w2 w9) := below_step HL8.out.1 k9
  obtain ⟨w10, hw10⟩ : ∃ w10, w9.alloc (.cells #[.pointer (some ⟨B, 0, none⟩), .int .i64 m.s, .int .i64 m.n, .int .i64 m.g, .int .i64 m.o, .int .i64 m.ms, .int .i64 m.gn, .int .i64 m.ct, .int .i64 m.tl, .int .i64 m.lg, .string p1, .int .i64 (chunk : Nat)] 75) = w10 := ⟨_, rfl⟩
  obtain ⟨Fb, hFb⟩ : ∃ F, w9.heap.size = F := ⟨_, rfl⟩
  have k10 : Below w9.heap.size w9 w10 := by rw [← hw10]; exact (Below.refl _ _).alloc (Nat.le_refl _) _
  have hf10 : FoB w10 Fb B (newF p1 line chunk m) := by rw [← hw10, ← hFb]; exact heap_alloc_new w9 _
  have HW10 : Hid (w9.alloc (.cells #[.pointer (some ⟨B, 0, none⟩), .int .i64 m.s, .int .i64 m.n, .int .i64 m.g, .int .i64 m.o, .int .i64 m.ms, .int .i64 m.gn, .int .i64 m.ct, .int .i64 m.tl, .int .i64 m.lg, .string p1, .int .i64 (chunk : Nat)] 75) = w10 ∧ w9.heap.size = Fb) := ⟨hw10, hFb⟩
  have k29 : Below w2.heap.size w2 w10 := below_step HL9.out k10
  have k710 : Below w7.heap.size w7 w10 := below_step (below_step HL8.out.2 k9) k10
  have HNF : Hid (FoAt w10 Fb B (.slice none 0 0) (newF p1 line chunk m) ∧ w.heap.size ≤ Fb ∧ w.heap.size ≤ B ∧ Below w.heap.size w w10) := by
    refine ⟨⟨hf10, HM7.out.1.later k710⟩, ?_, ?_, below_step HB.out.1 k29⟩
    · have h1 := HB.out.1.size
      have h2 := HL9.out.size
      omega
    · have h1 := HLO.out.size
      have h2 := HM7.out.2.2
      omega
  have HOK : Hid ((newF p1 line chunk m).Ok 0) := ⟨mayB_in HMM.out, HLC.out.1.2, Nat.zero_le _, Nat.le_refl _, HLC.out.2, HP1.out⟩
  have c0 : w9.cell? ⟨A2, 0, none⟩ = some (.int .i64 m.s) := cell_later HL9.out _ _ _ (by simp [World.cell?, HB.out.2.2])
  have c1 : w9.cell? ⟨A2, 1, none⟩ = some (.int .i64 m.n) := cell_later HL9.out _ _ _ (by simp [World.cell?, HB.out.2.2])
  have c2 : w9.cell? ⟨A2, 2, none⟩ = some (.int .i64 m.g) := cell_later HL9.out _ _ _ (by simp [World.cell?, HB.out.2.2])
  have c3 : w9.cell? ⟨A2, 3, none⟩ = some (.int .i64 m.o) := cell_later HL9.out _ _ _ (by simp [World.cell?, HB.out.2.2])
  have c4 : w9.cell? ⟨A2, 4, none⟩ = some (.int .i64 m.ms) := cell_later HL9.out _ _ _ (by simp [World.cell?, HB.out.2.2])
  have c5 : w9.cell? ⟨A2, 5, none⟩ = some (.int .i64 m.gn) := cell_later HL9.out _ _ _ (by simp [World.cell?, HB.out.2.2])
  have c6 : w9.cell? ⟨A2, 6, none⟩ = some (.int .i64 m.ct) := cell_later HL9.out _ _ _ (by simp [World.cell?, HB.out.2.2])
  have c7 : w9.cell? ⟨A2, 7, none⟩ = some (.int .i64 m.tl) := cell_later HL9.out _ _ _ (by simp [World.cell?, HB.out.2.2])
  have c8 : w9.cell? ⟨A2, 8, none⟩ = some (.int .i64 m.lg) := cell_later HL9.out _ _ _ (by simp [World.cell?, HB.out.2.2])
  have d1 : w10.cell? ⟨A2, 1, none⟩ = some (.int .i64 m.n) := cell_later k10 _ _ _ c1
  have s4 : w10.cell? ⟨A4, 0, none⟩ = some (.int .i64 (n1 : Nat)) := cell_later (below_step HM7.out.2.1 k710) _ _ _ HK6.out.2.1.cells.1
  have s6 : w10.cell? ⟨A6, 0, none⟩ = some (.int .i64 (n2 : Nat)) := cell_later (below_step HM7.out.2.1 k710) _ _ _ HK6.out.2.2.cells.1
  obtain ⟨mn, hmn⟩ : ∃ mn, m.n = mn := ⟨_, rfl⟩
  have HMN : Hid (m.n = mn) := hmn
  have HQ : Hid (∀ f' w', (f' = newF p1 line chunk m ∧ w' = w10 ∨ f' = (newF p1 line chunk m).lose ∧ FTo Fb B (.slice none 0 0) (newF p1 line chunk m).lose w10 w') → Nf w Fb B f' w') := by
    intro f' w' hh
    obtain ⟨x1, x2, x3, x4⟩ := HNF.out
    rcases hh with ⟨rfl, rfl⟩ | ⟨rfl, V', y1, y2, y3⟩
    · exact ⟨_, x1, x2, x3, fun b hb => (by cases hb), x4⟩
    · refine ⟨V', y1, x2, x3, fun b hb => ?_, ?_⟩
      · rcases y2 b hb with e | e
        · cases e
        · exact Nat.le_trans x4.size e
      · exact ⟨y3.os.trans x4.os, y3.tape.trans x4.tape, y3.output.trans x4.output, Nat.le_trans x4.size y3.size, fun k hk => (y3.block k (Nat.lt_of_lt_of_le hk x4.size) (fun e => by
          rcases e with e | e | e
          · omega
          · omega
          · cases e)).trans (x4.block k hk)⟩
  clear k9 k10 hf10 hw10 hFb k29 k710 HCL a0 hmn
  go_upto_region 10 with fail
  rw [HW10.out.1, HW10.out.2]
  clear HW10 c0 c1 c2 c3 c4 c5 c6 c7 c8
  rw [HMN.out] at d1
  by_cases t0 : mn = 0
  · have e0 : (mn != 0) = false := by simp; omega
    have HE : Hid (Nf w Fb B (madeF p1 p2 line chunk m d) w10) := by
      refine HQ.out _ _ (.inl ⟨?_, rfl⟩)
      unfold madeF
      rw [if_neg (fun z => z.1 (by rw [HMN.out]; exact t0))]
    clear t0
    go_wp2_with fail
    go_ret2
    exact ⟨Fb, B, rfl, HE.out⟩
  · have e0 : (mn != 0) = true := by simp; omega
    by_cases t1 : mn = (n1 : Int)
    · have e1 : (mn != (n1 : Int)) = false := by simp; omega
      have HE : Hid (Nf w Fb B (madeF p1 p2 line chunk m d) w10) := by
        refine HQ.out _ _ (.inl ⟨?_, rfl⟩)
        unfold madeF
        rw [if_neg (fun z => z.2.1 (by rw [HMN.out, HN.out.1]; exact t1))]
      clear t0 t1
      go_wp2_with fail
      go_ret2
      exact ⟨Fb, B, rfl, HE.out⟩
    · have e1 : (mn != (n1 : Int)) = true := by simp; omega
      by_cases t2 : mn = (n2 : Int)
      · have e2 : (mn != (n2 : Int)) = false := by simp; omega
        have HE : Hid (Nf w Fb B (madeF p1 p2 line chunk m d) w10) := by
          refine HQ.out _ _ (.inl ⟨?_, rfl⟩)
          unfold madeF
          rw [if_neg (fun z => z.2.2 (by rw [HMN.out, HN.out.2]; exact t2))]
        clear t0 t1 t2
        go_wp2_with fail
        go_ret2
        exact ⟨Fb, B, rfl, HE.out⟩
      · have e2 : (mn != (n2 : Int)) = true := by simp; omega
        have HLS : Hid (Calls Try.prog 23 #[.pointer (some ⟨Fb, 0, none⟩)] w10 _) := lose_fn HNF.out.1 HOK.out
        have HE : Hid (∀ w', FTo Fb B (.slice none 0 0) (newF p1 line chunk m).lose w10 w' → Nf w Fb B (madeF p1 p2 line chunk m d) w') := fun w' hw => by
          refine HQ.out _ _ (.inr ⟨?_, hw⟩)
          unfold madeF
          rw [if_pos ⟨by rw [HMN.out]; exact t0, by rw [HMN.out, HN.out.1]; exact t1, by rw [HMN.out, HN.out.2]; exact t2⟩]
        clear t0 t1 t2
        go_wp2_with fail
        refine HLS.out.mono ?_
        rintro e w11 ⟨rfl, h11⟩
        have HE2 : Hid (Nf w Fb B (madeF p1 p2 line chunk m d) w11) := HE.out w11 h11
        clear h11 HLS
        go_wp2_with fail
        go_ret2
        exact ⟨Fb, B, rfl, HE2.out⟩
end Go.Proofs.Ytpikepifhnkmkaa
