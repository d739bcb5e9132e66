/- follow: mayBe. -/
import Derived.Test.YtpikepifhnkmkaaG43
namespace Go.Proofs.Ytpikepifhnkmkaa
open Go.RowKit Go.Maps Sf Ln Fo
attribute [local go_sem ↓] Go.wp_at_zero Go.wp_at_succ

def mvs (m : Mrk) : List Int := [m.s, m.n, m.g, m.o, m.ms, m.gn, m.ct, m.tl, m.lg]
def inR (z : Int) : Bool := decide (0 ≤ z) && decide (z ≤ 4611686018427387904)
def restB (m : Mrk) : Bool := if m.n = 0 then decide (m.g = 0) && decide (m.o = 0) else decide (0 < m.s)
def mayB (m : Mrk) : Bool := (mvs m).all inR && restB m
theorem inR_iff {z : Int} : inR z = true ↔ 0 ≤ z ∧ z ≤ 4611686018427387904 := by unfold inR; simp
theorem mayB_in {m : Mrk} (h : mayB m = true) : m.In := by
  unfold mayB mvs at h
  simp only [List.all_cons, List.all_nil, Bool.and_true, Bool.and_eq_true, inR_iff] at h
  obtain ⟨⟨a, b, c, d, e, f, g, i, j⟩, _⟩ := h
  exact ⟨a, b, c, d, e, f, g, i, j⟩
set_option maxRecDepth 8000 in
set_option maxHeartbeats 2000000 in
theorem mayBe_fn (m : Mrk) (w : World) : Calls Try.prog 21 #[mrkBox m] w fun e w' => e = .returned (.bool (mayB m)) ∧ Below w.heap.size w w' := by
  obtain ⟨ms, mn, mg, mo, m5, m6, m7, m8, m9⟩ := m
  unfold mrkBox
  simp only
  obtain ⟨w1, hw1⟩ : ∃ w1, w.alloc (.cells #[.int .i64 ms, .int .i64 mn, .int .i64 mg, .int .i64 mo, .int .i64 m5, .int .i64 m6, .int .i64 m7, .int .i64 m8, .int .i64 m9] 37) = w1 := ⟨_, rfl⟩
  obtain ⟨A, hA⟩ : ∃ A, w.heap.size = A := ⟨_, rfl⟩
  have k1 : Below w.heap.size w w1 := by rw [← hw1]; exact (Below.refl _ _).alloc (Nat.le_refl _) _
  have h1 : w1.heap[A]? = some (.cells #[.int .i64 ms, .int .i64 mn, .int .i64 mg, .int .i64 mo, .int .i64 m5, .int .i64 m6, .int .i64 m7, .int .i64 m8, .int .i64 m9] 37 (0, 0)) := by rw [← hw1, ← hA]; exact heap_alloc_new w _
  obtain ⟨w2, hw2⟩ : ∃ w2, w1.alloc (.cells #[.int .i64 m5, .int .i64 m6, .int .i64 m7, .int .i64 m8, .int .i64 m9] 35) = w2 := ⟨_, rfl⟩
  obtain ⟨A2, hA2⟩ : ∃ A, w1.heap.size = A := ⟨_, rfl⟩
  have k2 : Below w1.heap.size w1 w2 := by rw [← hw2]; exact (Below.refl _ _).alloc (Nat.le_refl _) _
  have h2 : w2.heap[A2]? = some (.cells #[.int .i64 m5, .int .i64 m6, .int .i64 m7, .int .i64 m8, .int .i64 m9] 35 (0, 0)) := by rw [← hw2, ← hA2]; exact heap_alloc_new w1 _
  have h12 := (k2.block A (Array.getElem?_eq_some_iff.1 h1).1).trans h1
  obtain ⟨w3, hw3⟩ : ∃ w3, w2.alloc (.cells #[.int .i64 ms, .int .i64 mn, .int .i64 mg, .int .i64 mo, .int .i64 m5, .int .i64 m6, .int .i64 m7, .int .i64 m8, .int .i64 m9] 3) = w3 := ⟨_, rfl⟩
  obtain ⟨A3, hA3⟩ : ∃ A, w2.heap.size = A := ⟨_, rfl⟩
  have k3 : Below w2.heap.size w2 w3 := by rw [← hw3]; exact (Below.refl _ _).alloc (Nat.le_refl _) _
  have h3 : w3.heap[A3]? = some (.cells #[.int .i64 ms, .int .i64 mn, .int .i64 mg, .int .i64 mo, .int .i64 m5, .int .i64 m6, .int .i64 m7, .int .i64 m8, .int .i64 m9] 3 (0, 0)) := by rw [← hw3, ← hA3]; exact heap_alloc_new w2 _
  have h13 := (k3.block A (Array.getElem?_eq_some_iff.1 h12).1).trans h12
  have HK : Hid (Below w.heap.size w w3) := below_step (below_step k1 k2) k3
  have HW1 : Hid (w.alloc (.cells #[.int .i64 ms, .int .i64 mn, .int .i64 mg, .int .i64 mo, .int .i64 m5, .int .i64 m6, .int .i64 m7, .int .i64 m8, .int .i64 m9] 37) = w1 ∧ w.heap.size = A) := ⟨hw1, hA⟩
  have HW2 : Hid (w1.alloc (.cells #[.int .i64 m5, .int .i64 m6, .int .i64 m7, .int .i64 m8, .int .i64 m9] 35) = w2 ∧ w1.heap.size = A2) := ⟨hw2, hA2⟩
  have HW3 : Hid (w2.alloc (.cells #[.int .i64 ms, .int .i64 mn, .int .i64 mg, .int .i64 mo, .int .i64 m5, .int .i64 m6, .int .i64 m7, .int .i64 m8, .int .i64 m9] 3) = w3 ∧ w2.heap.size = A3) := ⟨hw3, hA3⟩
  have HC : Hid (∀ (k : Nat) z, (mvs ⟨ms, mn, mg, mo, m5, m6, m7, m8, m9⟩)[k]? = some z → w3.cell? ⟨A3, k, none⟩ = some (.int .i64 z)) := fun k z hz => by
    simp only [World.cell?, h3]
    have : (mvs ⟨ms, mn, mg, mo, m5, m6, m7, m8, m9⟩).map (Value.int .i64) = [.int .i64 ms, .int .i64 mn, .int .i64 mg, .int .i64 mo, .int .i64 m5, .int .i64 m6, .int .i64 m7, .int .i64 m8, .int .i64 m9] := rfl
    rw [show (#[.int .i64 ms, .int .i64 mn, .int .i64 mg, .int .i64 mo, .int .i64 m5, .int .i64 m6, .int .i64 m7, .int .i64 m8, .int .i64 m9] : Array Value) = ((mvs ⟨ms, mn, mg, mo, m5, m6, m7, m8, m9⟩).map (Value.int .i64)).toArray from rfl]
    simp [hz]
  have a0 : w1.cell? ⟨A, 0, none⟩ = some (.int .i64 ms) := by simp [World.cell?, h1]
  have a5 : w1.cell? ⟨A, 4, none⟩ = some (.int .i64 m5) := by simp [World.cell?, h1]
  have a6 : w1.cell? ⟨A, 5, none⟩ = some (.int .i64 m6) := by simp [World.cell?, h1]
  have a7 : w1.cell? ⟨A, 6, none⟩ = some (.int .i64 m7) := by simp [World.cell?, h1]
  have a8 : w1.cell? ⟨A, 7, none⟩ = some (.int .i64 m8) := by simp [World.cell?, h1]
  have a9 : w1.cell? ⟨A, 8, none⟩ = some (.int .i64 m9) := by simp [World.cell?, h1]
  have b0 : w2.cell? ⟨A, 0, none⟩ = some (.int .i64 ms) := by simp [World.cell?, h12]
  have b1 : w2.cell? ⟨A, 1, none⟩ = some (.int .i64 mn) := by simp [World.cell?, h12]
  have b2 : w2.cell? ⟨A, 2, none⟩ = some (.int .i64 mg) := by simp [World.cell?, h12]
  have b3 : w2.cell? ⟨A, 3, none⟩ = some (.int .i64 mo) := by simp [World.cell?, h12]
  have d0 : w2.cell? ⟨A2, 0, none⟩ = some (.int .i64 m5) := by simp [World.cell?, h2]
  have d1 : w2.cell? ⟨A2, 1, none⟩ = some (.int .i64 m6) := by simp [World.cell?, h2]
  have d2 : w2.cell? ⟨A2, 2, none⟩ = some (.int .i64 m7) := by simp [World.cell?, h2]
  have d3 : w2.cell? ⟨A2, 3, none⟩ = some (.int .i64 m8) := by simp [World.cell?, h2]
  have d4 : w2.cell? ⟨A2, 4, none⟩ = some (.int .i64 m9) := by simp [World.cell?, h2]
  have f0 : w3.cell? ⟨A, 0, none⟩ = some (.int .i64 ms) := by simp [World.cell?, h13]
  have f1 : w3.cell? ⟨A, 1, none⟩ = some (.int .i64 mn) := by simp [World.cell?, h13]
  have f2 : w3.cell? ⟨A, 2, none⟩ = some (.int .i64 mg) := by simp [World.cell?, h13]
  have f3 : w3.cell? ⟨A, 3, none⟩ = some (.int .i64 mo) := by simp [World.cell?, h13]
  have HML : Hid ((mvs ⟨ms, mn, mg, mo, m5, m6, m7, m8, m9⟩).length = 9) := rfl
  clear hw1 hA k1 h1 hw2 hA2 k2 h2 h12 hw3 hA3 k3 h3 h13
  go_enter Try.func21, Try.ntmps21
  go_upto_region 1 with fail
  rw [HW1.out.1, HW1.out.2]
  go_upto_region 2 with fail
  rw [HW2.out.1, HW2.out.2]
  go_wp2_with fail
  rw [HW3.out.1, HW3.out.2]
  clear HW1 HW2 HW3 a0 a5 a6 a7 a8 a9 b0 b1 b2 b3 d0 d1 d2 d3 d4
  go_loop [28] (fun i => ∃ k : Nat, k ≤ 9 ∧ i = .int .i64 (k : Nat) ∧ Hid (∀ (j : Nat) z, j < k → (mvs ⟨ms, mn, mg, mo, m5, m6, m7, m8, m9⟩)[j]? = some z → inR z = true)) (fun i => 9 - (intOf i).toNat)
  case atStart => exact ⟨0, by omega, rfl, fun j z hj => by omega⟩
  case round =>
    obtain ⟨k, hk, rfl, HI⟩ := hrel
    by_cases hlt : k < 9
    · obtain ⟨z, hz⟩ : ∃ z, (mvs ⟨ms, mn, mg, mo, m5, m6, m7, m8, m9⟩)[k]? = some z := ⟨_, List.getElem?_eq_getElem (by rw [HML.out]; exact hlt)⟩
      have hc := HC.out k z hz
      have HZ : Hid ((mvs ⟨ms, mn, mg, mo, m5, m6, m7, m8, m9⟩)[k]? = some z) := hz
      clear hz
      have hno : inR z = false → mayB ⟨ms, mn, mg, mo, m5, m6, m7, m8, m9⟩ = false := fun e => by
        unfold mayB
        have : (mvs ⟨ms, mn, mg, mo, m5, m6, m7, m8, m9⟩).all inR = false := by
          rw [List.all_eq_false]
          exact ⟨z, List.mem_of_getElem? HZ.out, by rw [e]; exact Bool.false_ne_true⟩
        rw [this]
        rfl
      by_cases z1 : z < 0
      · have HN : Hid (mayB ⟨ms, mn, mg, mo, m5, m6, m7, m8, m9⟩ = false) := hno (by unfold inR; rw [decide_eq_false (by omega)]; rfl)
        clear hno
        go_wp2
        go_ret
        exact ⟨by rw [HN.out]; rfl, HK.out⟩
      · by_cases z2 : 4611686018427387904 < z
        · have HN : Hid (mayB ⟨ms, mn, mg, mo, m5, m6, m7, m8, m9⟩ = false) := hno (by unfold inR; rw [decide_eq_false (p := z ≤ 4611686018427387904) (by omega), Bool.and_false])
          have hd : decide (z < 0) = false := decide_eq_false z1
          clear hno
          go_wp2
          go_ret
          exact ⟨by rw [HN.out]; rfl, HK.out⟩
        · have hd : decide (z < 0) = false := decide_eq_false z1
          have HI2 : Hid (∀ (j : Nat) y, j < k + 1 → (mvs ⟨ms, mn, mg, mo, m5, m6, m7, m8, m9⟩)[j]? = some y → inR y = true) := fun j y hj hy => by
            by_cases e : j < k
            · exact HI.out j y e hy
            · obtain rfl : j = k := by omega
              rw [HZ.out] at hy
              cases hy
              exact inR_iff.2 ⟨by omega, by omega⟩
          clear hno
          go_wp2
          go_round
          case rel => exact ⟨k + 1, by omega, by go_num, HI2⟩
          case measure => simp [intOf]; omega
    · obtain rfl : k = 9 := by omega
      have hall : (mvs ⟨ms, mn, mg, mo, m5, m6, m7, m8, m9⟩).all inR = true := by
        rw [List.all_eq_true]
        intro z hz
        obtain ⟨j, hj⟩ := List.getElem?_of_mem hz
        exact HI.out j z (by have := (List.getElem?_eq_some_iff.1 hj).1; rw [HML.out] at this; exact this) hj
      have hmb : mayB ⟨ms, mn, mg, mo, m5, m6, m7, m8, m9⟩ = restB ⟨ms, mn, mg, mo, m5, m6, m7, m8, m9⟩ := by unfold mayB; rw [hall]; rfl
      unfold restB at hmb
      simp only at hmb
      by_cases hn : mn = 0
      · rw [if_pos hn] at hmb
        have e0 : (mn == 0) = true := by simp; omega
        by_cases hg : mg = 0
        · have e1 : (mg == 0) = true := by simp; omega
          by_cases hm : mo = 0
          · have e2 : (mo == 0) = true := by simp; omega
            have HM : Hid (mayB ⟨ms, mn, mg, mo, m5, m6, m7, m8, m9⟩ = true) := by show _ = _; rw [hmb, decide_eq_true hg, decide_eq_true hm]; rfl
            clear hall hmb hn hg hm
            go_wp2
            go_ret
            exact ⟨by rw [HM.out]; rfl, HK.out⟩
          · have e2 : (mo == 0) = false := by simp; omega
            have HM : Hid (mayB ⟨ms, mn, mg, mo, m5, m6, m7, m8, m9⟩ = false) := by show _ = _; rw [hmb, decide_eq_true hg, decide_eq_false hm]; rfl
            clear hall hmb hn hg hm
            go_wp2
            go_ret
            exact ⟨by rw [HM.out]; rfl, HK.out⟩
        · have e1 : (mg == 0) = false := by simp; omega
          have HM : Hid (mayB ⟨ms, mn, mg, mo, m5, m6, m7, m8, m9⟩ = false) := by show _ = _; rw [hmb, decide_eq_false hg]; rfl
          clear hall hmb hn hg
          go_wp2
          go_ret
          exact ⟨by rw [HM.out]; rfl, HK.out⟩
      · rw [if_neg hn] at hmb
        have e0 : (mn == 0) = false := by simp; omega
        by_cases hs : 0 < ms
        · have HM : Hid (mayB ⟨ms, mn, mg, mo, m5, m6, m7, m8, m9⟩ = true) := by show _ = _; rw [hmb, decide_eq_true hs]
          clear hall hmb hn
          go_wp2
          go_ret
          exact ⟨by rw [HM.out]; rfl, HK.out⟩
        · have HM : Hid (mayB ⟨ms, mn, mg, mo, m5, m6, m7, m8, m9⟩ = false) := by show _ = _; rw [hmb, decide_eq_false hs]
          clear hall hmb hn
          go_wp2
          go_ret
          exact ⟨by rw [HM.out]; rfl, HK.out⟩
end Go.Proofs.Ytpikepifhnkmkaa
