/- subset.Right and what it calls. -/
import Derived.Test.YtdngileimmgdnaaDoorG06
import Derived.WalkMore
namespace Go.Proofs.YtdngileimmgdnaaDoor
open Go.RowKit
attribute [local go_sem ↓] Go.wp_at_zero Go.wp_at_succ

/-- a box of one cell -/
def BX (w : World) (A : Nat) (v : Value) (t : TypeId) : Prop := w.heap[A]? = some (.cells #[v] t (0, 0))
theorem BX.cell {w : World} {A : Nat} {v : Value} {t : TypeId} (h : BX w A v t) : w.cell? ⟨A, 0, none⟩ = some v := by
  unfold BX at h
  simp [World.cell?, h]
theorem BX.later {w w' : World} {A : Nat} {v : Value} {t : TypeId} (h : BX w A v t) (hb : Below w.heap.size w w') : BX w' A v t := (hb.block A (Array.getElem?_eq_some_iff.1 h).1).trans h
theorem bx_new (w : World) (v : Value) (t : TypeId) : BX (w.alloc (.cells #[v] t)) w.heap.size v t := heap_alloc_new w _

set_option maxHeartbeats 1000000 in
theorem below1_any (n A : Nat) (z : Int) (w : World) (hA : w.cell? ⟨A, 0, none⟩ = some (.int .i64 (n : Nat))) :
    Calls Tryd.prog 42 #[.int .i64 z, .pointer (some ⟨A, 0, none⟩)] w fun e w' => e = .returned (.bool (!blw n z)) ∧ w' = w := by
  by_cases h0 : z < 0
  · have HX : Hid (blw n z = false) := by show _ = _; unfold blw; simp; omega
    go_enter Tryd.func42, Tryd.ntmps42
    go_wp2
    go_ret
    exact ⟨by rw [HX.out]; rfl, rfl⟩
  · by_cases h1 : (n : Int) ≤ z
    · have HX : Hid (blw n z = false) := by show _ = _; unfold blw; simp; omega
      go_enter Tryd.func42, Tryd.ntmps42
      go_wp2
      go_ret
      exact ⟨by rw [HX.out]; rfl, rfl⟩
    · have HX : Hid (blw n z = true) := by show _ = _; unfold blw; simp; omega
      go_enter Tryd.func42, Tryd.ntmps42
      go_wp2
      go_ret
      exact ⟨by rw [HX.out]; simp, rfl⟩

set_option maxHeartbeats 4000000 in
theorem index_blw (g : Int → Bool) (c0 : Value) (r : List Int) (V : Value) (w : World) (hV : LAt w V (ints r))
    (hg : ∀ z ∈ r, ∀ u, Below w.heap.size w u → Calls Tryd.prog 42 #[.int .i64 z, c0] u fun e w' => e = .returned (.bool (g z)) ∧ Below u.heap.size u w') :
    Calls Tryd.prog 52 #[V, .func (.func 42) #[] #[c0]] w fun e w' => ∃ i : Int, e = .returned (.int .i64 i) ∧ decide (0 ≤ i) = r.any g ∧ Below w.heap.size w w' := by
  have HG : Hid (∀ z ∈ r, ∀ u, Below w.heap.size w u → Calls Tryd.prog 42 #[.int .i64 z, c0] u fun e w' => e = .returned (.bool (g z)) ∧ Below u.heap.size u w') := hg
  obtain ⟨a, c, rfl, hlc, hc1, hat⟩ := hV.intAt
  have HA : Hid (∀ k , k < r.length → ∃ b off, a = some ⟨b, off, none⟩ ∧ w.cell? ⟨b, off + k, none⟩ = some (.int .i64 (r.getD k 0))) := hat
  obtain ⟨n, hn⟩ : ∃ n, r.length = n := ⟨_, rfl⟩
  have HN : Hid (r.length = n) := hn
  rw [hn] at hlc
  rw [hn]
  clear hV hg hat hn
  go_enter Tryd.func52, Tryd.ntmps52
  go_wp2_with fail
  go_loopw [8] (fun i u => ∃ j : Nat, i = .int .i64 (j : Nat) ∧ j ≤ n ∧ Hid ((r.take j).any g = false) ∧ Hid (Below w.heap.size w u)) (fun i _ => n - (intOf i).toNat)
  case atStart => exact ⟨0, rfl, Nat.zero_le _, by show _ = _; simp, Below.refl _ _⟩
  case round =>
    obtain ⟨j, rfl, hjn, HAL, HB⟩ := hrel
    by_cases hlt : j < n
    · have hlt' : (j : Int) < (n : Int) := by omega
      obtain ⟨z, hz⟩ : ∃ z, r[j]? = some z := ⟨_, List.getElem?_eq_getElem (by rw [HN.out]; exact hlt)⟩
      obtain ⟨b, off, rfl, hcell⟩ := HA.out j (by rw [HN.out]; exact hlt)
      rw [List.getD_eq_getElem?_getD, hz, Option.getD_some] at hcell
      have hcell2 := cell_later HB.out _ _ _ hcell
      have HC := HG.out z (List.mem_of_getElem? hz) wr HB.out
      have HCH : Hid (Calls Tryd.prog 42 #[.int .i64 z, c0] wr fun e w' => e = .returned (.bool (g z)) ∧ Below wr.heap.size wr w') := HC
      have HTA : Hid ((r.take (j + 1)).any g = g z) := by
        show _ = _
        rw [List.take_add_one, hz, List.any_append, HAL.out]
        simp
      have HYES : Hid (g z = true → r.any g = true) := fun h => List.any_eq_true.2 ⟨z, List.mem_of_getElem? hz, h⟩
      obtain ⟨ok, hok⟩ : ∃ ok, g z = ok := ⟨_, rfl⟩
      rw [hok] at HCH HTA HYES
      clear hok hz HC hcell
      go_wp2_with fail
      refine HCH.out.mono ?_
      rintro e w2 ⟨rfl, k2⟩
      have HB2 : Hid (Below w.heap.size w w2) := below_step HB.out k2
      clear k2 HCH HB hcell2
      cases ok with
      | false =>
        go_wp2
        go_roundw
        case rel => exact ⟨j + 1, by go_num, by omega, HTA, HB2⟩
        case measure => simp [intOf]; omega
      | true =>
        have HF := HYES.out rfl
        have HFH : Hid (r.any g = true) := HF
        clear HF
        go_wp2
        go_ret
        exact ⟨(j : Int), rfl, by rw [HFH.out]; simp, HB2.out⟩
    · have hlt' : ¬ (j : Int) < (n : Int) := by omega
      have HF : Hid (r.any g = false) := by
        show _ = _
        rw [← HAL.out, List.take_of_length_le (by rw [HN.out]; omega)]
      go_wp2
      go_ret
      exact ⟨-1, rfl, by rw [HF.out]; decide, HB.out⟩
theorem contains_blw (g : Int → Bool) (c0 : Value) (r : List Int) (V : Value) (w : World) (hV : LAt w V (ints r))
    (hg : ∀ z ∈ r, ∀ u, Below w.heap.size w u → Calls Tryd.prog 42 #[.int .i64 z, c0] u fun e w' => e = .returned (.bool (g z)) ∧ Below u.heap.size u w') :
    Calls Tryd.prog 41 #[V, .func (.func 42) #[] #[c0]] w fun e w' => e = .returned (.bool (r.any g)) ∧ Below w.heap.size w w' := by
  have HC : Hid (Calls Tryd.prog 52 #[V, .func (.func 42) #[] #[c0]] w fun e w' => ∃ i : Int, e = .returned (.int .i64 i) ∧ decide (0 ≤ i) = r.any g ∧ Below w.heap.size w w') := index_blw g c0 r V w hV hg
  clear hV hg
  go_enter Tryd.func41, Tryd.ntmps41
  go_wp2_with fail
  refine HC.out.mono ?_
  rintro e w2 ⟨i, rfl, hi, k2⟩
  have HI : Hid (decide (0 ≤ i) = r.any g) := hi
  have HB : Hid (Below w.heap.size w w2) := k2
  clear hi k2 HC
  by_cases h0 : 0 ≤ i
  · have h1 : decide (0 ≤ i) = true := by simp [h0]
    go_wp2
    go_ret
    exact ⟨by rw [← HI.out, h1]; rfl, HB.out⟩
  · have h1 : decide (0 ≤ i) = false := by simp [h0]
    go_wp2
    go_ret
    exact ⟨by rw [← HI.out, h1]; rfl, HB.out⟩

set_option maxHeartbeats 4000000 in
theorem index_kf (g : Int → Bool) (c0 : Value) (c1 : Value) (r : List Int) (V : Value) (w : World) (hV : LAt w V (ints r))
    (hg : ∀ z ∈ r, ∀ u, Below w.heap.size w u → Calls Tryd.prog 44 #[.int .i64 z, c0, c1] u fun e w' => e = .returned (.bool (g z)) ∧ Below u.heap.size u w') :
    Calls Tryd.prog 52 #[V, .func (.func 44) #[] #[c0, c1]] w fun e w' => ∃ i : Int, e = .returned (.int .i64 i) ∧ decide (0 ≤ i) = r.any g ∧ Below w.heap.size w w' := by
  have HG : Hid (∀ z ∈ r, ∀ u, Below w.heap.size w u → Calls Tryd.prog 44 #[.int .i64 z, c0, c1] u fun e w' => e = .returned (.bool (g z)) ∧ Below u.heap.size u w') := hg
  obtain ⟨a, c, rfl, hlc, hc1, hat⟩ := hV.intAt
  have HA : Hid (∀ k , k < r.length → ∃ b off, a = some ⟨b, off, none⟩ ∧ w.cell? ⟨b, off + k, none⟩ = some (.int .i64 (r.getD k 0))) := hat
  obtain ⟨n, hn⟩ : ∃ n, r.length = n := ⟨_, rfl⟩
  have HN : Hid (r.length = n) := hn
  rw [hn] at hlc
  rw [hn]
  clear hV hg hat hn
  go_enter Tryd.func52, Tryd.ntmps52
  go_wp2_with fail
  go_loopw [8] (fun i u => ∃ j : Nat, i = .int .i64 (j : Nat) ∧ j ≤ n ∧ Hid ((r.take j).any g = false) ∧ Hid (Below w.heap.size w u)) (fun i _ => n - (intOf i).toNat)
  case atStart => exact ⟨0, rfl, Nat.zero_le _, by show _ = _; simp, Below.refl _ _⟩
  case round =>
    obtain ⟨j, rfl, hjn, HAL, HB⟩ := hrel
    by_cases hlt : j < n
    · have hlt' : (j : Int) < (n : Int) := by omega
      obtain ⟨z, hz⟩ : ∃ z, r[j]? = some z := ⟨_, List.getElem?_eq_getElem (by rw [HN.out]; exact hlt)⟩
      obtain ⟨b, off, rfl, hcell⟩ := HA.out j (by rw [HN.out]; exact hlt)
      rw [List.getD_eq_getElem?_getD, hz, Option.getD_some] at hcell
      have hcell2 := cell_later HB.out _ _ _ hcell
      have HC := HG.out z (List.mem_of_getElem? hz) wr HB.out
      have HCH : Hid (Calls Tryd.prog 44 #[.int .i64 z, c0, c1] wr fun e w' => e = .returned (.bool (g z)) ∧ Below wr.heap.size wr w') := HC
      have HTA : Hid ((r.take (j + 1)).any g = g z) := by
        show _ = _
        rw [List.take_add_one, hz, List.any_append, HAL.out]
        simp
      have HYES : Hid (g z = true → r.any g = true) := fun h => List.any_eq_true.2 ⟨z, List.mem_of_getElem? hz, h⟩
      obtain ⟨ok, hok⟩ : ∃ ok, g z = ok := ⟨_, rfl⟩
      rw [hok] at HCH HTA HYES
      clear hok hz HC hcell
      go_wp2_with fail
      refine HCH.out.mono ?_
      rintro e w2 ⟨rfl, k2⟩
      have HB2 : Hid (Below w.heap.size w w2) := below_step HB.out k2
      clear k2 HCH HB hcell2
      cases ok with
      | false =>
        go_wp2
        go_roundw
        case rel => exact ⟨j + 1, by go_num, by omega, HTA, HB2⟩
        case measure => simp [intOf]; omega
      | true =>
        have HF := HYES.out rfl
        have HFH : Hid (r.any g = true) := HF
        clear HF
        go_wp2
        go_ret
        exact ⟨(j : Int), rfl, by rw [HFH.out]; simp, HB2.out⟩
    · have hlt' : ¬ (j : Int) < (n : Int) := by omega
      have HF : Hid (r.any g = false) := by
        show _ = _
        rw [← HAL.out, List.take_of_length_le (by rw [HN.out]; omega)]
      go_wp2
      go_ret
      exact ⟨-1, rfl, by rw [HF.out]; decide, HB.out⟩
theorem contains_kf (g : Int → Bool) (c0 : Value) (c1 : Value) (r : List Int) (V : Value) (w : World) (hV : LAt w V (ints r))
    (hg : ∀ z ∈ r, ∀ u, Below w.heap.size w u → Calls Tryd.prog 44 #[.int .i64 z, c0, c1] u fun e w' => e = .returned (.bool (g z)) ∧ Below u.heap.size u w') :
    Calls Tryd.prog 41 #[V, .func (.func 44) #[] #[c0, c1]] w fun e w' => e = .returned (.bool (r.any g)) ∧ Below w.heap.size w w' := by
  have HC : Hid (Calls Tryd.prog 52 #[V, .func (.func 44) #[] #[c0, c1]] w fun e w' => ∃ i : Int, e = .returned (.int .i64 i) ∧ decide (0 ≤ i) = r.any g ∧ Below w.heap.size w w') := index_kf g c0 c1 r V w hV hg
  clear hV hg
  go_enter Tryd.func41, Tryd.ntmps41
  go_wp2_with fail
  refine HC.out.mono ?_
  rintro e w2 ⟨i, rfl, hi, k2⟩
  have HI : Hid (decide (0 ≤ i) = r.any g) := hi
  have HB : Hid (Below w.heap.size w w2) := k2
  clear hi k2 HC
  by_cases h0 : 0 ≤ i
  · have h1 : decide (0 ≤ i) = true := by simp [h0]
    go_wp2
    go_ret
    exact ⟨by rw [← HI.out, h1]; rfl, HB.out⟩
  · have h1 : decide (0 ≤ i) = false := by simp [h0]
    go_wp2
    go_ret
    exact ⟨by rw [← HI.out, h1]; rfl, HB.out⟩

set_option maxHeartbeats 4000000 in
theorem index_rows (g : Value → Bool) (c0 : Value) (c1 : Value) (r : List Value) (V : Value) (w : World) (hV : LAt w V r)
    (hg : ∀ z ∈ r, ∀ u, Below w.heap.size w u → Calls Tryd.prog 27 #[z, c0, c1] u fun e w' => e = .returned (.bool (g z)) ∧ Below u.heap.size u w') :
    Calls Tryd.prog 43 #[V, .func (.func 27) #[] #[c0, c1]] w fun e w' => ∃ i : Int, e = .returned (.int .i64 i) ∧ decide (0 ≤ i) = r.any g ∧ Below w.heap.size w w' := by
  have HG : Hid (∀ z ∈ r, ∀ u, Below w.heap.size w u → Calls Tryd.prog 27 #[z, c0, c1] u fun e w' => e = .returned (.bool (g z)) ∧ Below u.heap.size u w') := hg
  obtain ⟨a, c, rfl, hlc, hc1, hat⟩ := hV.open
  have HA : Hid (∀ k v, r[k]? = some v → ∃ b off, a = some ⟨b, off, none⟩ ∧ w.cell? ⟨b, off + k, none⟩ = some v) := hat
  obtain ⟨n, hn⟩ : ∃ n, r.length = n := ⟨_, rfl⟩
  have HN : Hid (r.length = n) := hn
  rw [hn] at hlc
  rw [hn]
  clear hV hg hat hn
  go_enter Tryd.func43, Tryd.ntmps43
  go_wp2_with fail
  go_loopw [8] (fun i u => ∃ j : Nat, i = .int .i64 (j : Nat) ∧ j ≤ n ∧ Hid ((r.take j).any g = false) ∧ Hid (Below w.heap.size w u)) (fun i _ => n - (intOf i).toNat)
  case atStart => exact ⟨0, rfl, Nat.zero_le _, by show _ = _; simp, Below.refl _ _⟩
  case round =>
    obtain ⟨j, rfl, hjn, HAL, HB⟩ := hrel
    by_cases hlt : j < n
    · have hlt' : (j : Int) < (n : Int) := by omega
      obtain ⟨z, hz⟩ : ∃ z, r[j]? = some z := ⟨_, List.getElem?_eq_getElem (by rw [HN.out]; exact hlt)⟩
      obtain ⟨b, off, rfl, hcell⟩ := HA.out j z hz
      skip
      have hcell2 := cell_later HB.out _ _ _ hcell
      have HC := HG.out z (List.mem_of_getElem? hz) wr HB.out
      have HCH : Hid (Calls Tryd.prog 27 #[z, c0, c1] wr fun e w' => e = .returned (.bool (g z)) ∧ Below wr.heap.size wr w') := HC
      have HTA : Hid ((r.take (j + 1)).any g = g z) := by
        show _ = _
        rw [List.take_add_one, hz, List.any_append, HAL.out]
        simp
      have HYES : Hid (g z = true → r.any g = true) := fun h => List.any_eq_true.2 ⟨z, List.mem_of_getElem? hz, h⟩
      obtain ⟨ok, hok⟩ : ∃ ok, g z = ok := ⟨_, rfl⟩
      rw [hok] at HCH HTA HYES
      clear hok hz HC hcell
      go_wp2_with fail
      refine HCH.out.mono ?_
      rintro e w2 ⟨rfl, k2⟩
      have HB2 : Hid (Below w.heap.size w w2) := below_step HB.out k2
      clear k2 HCH HB hcell2
      cases ok with
      | false =>
        go_wp2
        go_roundw
        case rel => exact ⟨j + 1, by go_num, by omega, HTA, HB2⟩
        case measure => simp [intOf]; omega
      | true =>
        have HF := HYES.out rfl
        have HFH : Hid (r.any g = true) := HF
        clear HF
        go_wp2
        go_ret
        exact ⟨(j : Int), rfl, by rw [HFH.out]; simp, HB2.out⟩
    · have hlt' : ¬ (j : Int) < (n : Int) := by omega
      have HF : Hid (r.any g = false) := by
        show _ = _
        rw [← HAL.out, List.take_of_length_le (by rw [HN.out]; omega)]
      go_wp2
      go_ret
      exact ⟨-1, rfl, by rw [HF.out]; decide, HB.out⟩
theorem contains_rows (g : Value → Bool) (c0 : Value) (c1 : Value) (r : List Value) (V : Value) (w : World) (hV : LAt w V r)
    (hg : ∀ z ∈ r, ∀ u, Below w.heap.size w u → Calls Tryd.prog 27 #[z, c0, c1] u fun e w' => e = .returned (.bool (g z)) ∧ Below u.heap.size u w') :
    Calls Tryd.prog 26 #[V, .func (.func 27) #[] #[c0, c1]] w fun e w' => e = .returned (.bool (r.any g)) ∧ Below w.heap.size w w' := by
  have HC : Hid (Calls Tryd.prog 43 #[V, .func (.func 27) #[] #[c0, c1]] w fun e w' => ∃ i : Int, e = .returned (.int .i64 i) ∧ decide (0 ≤ i) = r.any g ∧ Below w.heap.size w w') := index_rows g c0 c1 r V w hV hg
  clear hV hg
  go_enter Tryd.func26, Tryd.ntmps26
  go_wp2_with fail
  refine HC.out.mono ?_
  rintro e w2 ⟨i, rfl, hi, k2⟩
  have HI : Hid (decide (0 ≤ i) = r.any g) := hi
  have HB : Hid (Below w.heap.size w w2) := k2
  clear hi k2 HC
  by_cases h0 : 0 ≤ i
  · have h1 : decide (0 ≤ i) = true := by simp [h0]
    go_wp2
    go_ret
    exact ⟨by rw [← HI.out, h1]; rfl, HB.out⟩
  · have h1 : decide (0 ≤ i) = false := by simp [h0]
    go_wp2
    go_ret
    exact ⟨by rw [← HI.out, h1]; rfl, HB.out⟩

theorem all_any (g : Int → Bool) (r : List Int) : (r.any fun z => !g z) = !(r.all g) := by
  induction r with
  | nil => rfl
  | cons z r ih => simp [ih]
theorem allBelow_any (n : Nat) (r : List Int) (V : Value) (w : World) (hV : LAt w V (ints r)) :
    Calls Tryd.prog 25 #[.int .i64 (n : Nat), V] w fun e w' => e = .returned (.bool (r.all (blw n))) ∧ Below w.heap.size w w' := by
  have kk : Below w.heap.size w (w.alloc (.cells #[.int .i64 (n : Nat)] 3)) := (Below.refl _ _).alloc (Nat.le_refl _) _
  have hbx := bx_new w (.int .i64 (n : Nat)) 3
  have HC : Hid (Calls Tryd.prog 41 #[V, .func (.func 42) #[] #[.pointer (some ⟨w.heap.size, 0, none⟩)]] (w.alloc (.cells #[.int .i64 (n : Nat)] 3)) fun e w' => e = .returned (.bool (r.any fun z => !blw n z)) ∧ Below (w.alloc (.cells #[.int .i64 (n : Nat)] 3)).heap.size (w.alloc (.cells #[.int .i64 (n : Nat)] 3)) w') :=
    contains_blw (fun z => !blw n z) _ r V _ (hV.later kk) (fun z _ u hu => (below1_any n w.heap.size z u (hbx.later hu).cell).mono (fun e w' ⟨h1, h2⟩ => ⟨h1, by rw [h2]; exact Below.refl _ _⟩))
  rw [all_any] at HC
  obtain ⟨w1, hw1⟩ : ∃ w1, w.alloc (.cells #[.int .i64 (n : Nat)] 3) = w1 := ⟨_, rfl⟩
  rw [hw1] at HC kk
  have HK : Hid (Below w.heap.size w w1) := kk
  have HW : Hid (w.alloc (.cells #[.int .i64 (n : Nat)] 3) = w1) := hw1
  obtain ⟨A, hA⟩ : ∃ A, w.heap.size = A := ⟨_, rfl⟩
  rw [hA] at HC
  have HAA : Hid (w.heap.size = A) := hA
  obtain ⟨ok, hok⟩ : ∃ ok, r.all (blw n) = ok := ⟨_, rfl⟩
  rw [hok] at HC ⊢
  clear hok hw1 hbx hV kk hA
  have hmf : ∀ (fn : Fn) (first cap : Array Value) (w : World), (Instr.makeFunc fn first cap).run Tryd.prog w = .ok (.func fn first cap) w := fun _ _ _ _ => rfl
  go_enter Tryd.func25, Tryd.ntmps25
  go_upto_region 1 with fail
  rw [HW.out, HAA.out]
  clear HW
  go_wp2_with fail
  refine HC.out.mono ?_
  rintro e w2 ⟨rfl, k2⟩
  have HB : Hid (Below w.heap.size w w2) := below_step HK.out k2
  clear k2 HC
  go_wp2
  go_ret
  exact ⟨by simp, HB.out⟩
theorem inn_iff {a b : Nat} (ha : a < 4294967296) (hb : b < 4294967296) : a &&& (4294967295 - b) = 0 ↔ inn a b = true := by
  unfold inn
  rw [beq_iff_eq]
  have key : ∀ i, (4294967295 - b).testBit i = (decide (i < 32) && !b.testBit i) := fun i => by
    have := Nat.testBit_two_pow_sub_succ (n := 32) (x := b) hb i
    rwa [show 2 ^ 32 - (b + 1) = 4294967295 - b by omega] at this
  constructor
  · intro h
    apply Nat.eq_of_testBit_eq
    intro i
    have h1 := congrArg (fun x => x.testBit i) h
    simp only [Nat.testBit_and, key, Nat.zero_testBit] at h1
    rw [Nat.testBit_and]
    cases hx : a.testBit i
    · rfl
    · have hi : i < 32 := by
        apply Classical.byContradiction
        intro hn
        have : a.testBit i = false := Nat.testBit_lt_two_pow (Nat.lt_of_lt_of_le ha (Nat.pow_le_pow_right (n := 2) (by decide) (show 32 ≤ i by omega)))
        rw [this] at hx
        cases hx
      rw [hx] at h1
      simp [hi] at h1
      rw [h1]
      rfl
  · intro h
    apply Nat.eq_of_testBit_eq
    intro i
    have h1 := congrArg (fun x => x.testBit i) h
    simp only [Nat.testBit_and] at h1
    rw [Nat.testBit_and, key, Nat.zero_testBit]
    cases hx : a.testBit i
    · rfl
    · rw [hx] at h1
      simp at h1
      rw [h1]
      simp
theorem inn_neq {a b : Nat} (ha : a < 4294967296) (hb : b < 4294967296) : (bits .andNot .u32 (a : Int) (b : Int) != 0) = !inn a b := by
  rw [u32_andNot_nat a b ha hb]
  have h := inn_iff ha hb
  cases hx : inn a b
  · have : ¬ (a &&& (4294967295 - b) = 0) := fun e => by rw [h.1 e] at hx; cases hx
    simp
    omega
  · have : a &&& (4294967295 - b) = 0 := h.2 hx
    simp [this]
set_option maxHeartbeats 2000000 in
theorem keeps1_any (F : Nat) (d : Dt) (A D : Nat) (f : Nat → Int) (V1 V2 V3 : Value) (Us : List Value) (t : Int) (w : World) (hF : F < 4294967296) (hA : w.cell? ⟨A, 0, none⟩ = some (.int .u32 (F : Nat))) (hD : DB w D f V1 V2 V3) (hd : DfAt w d V1 V2 V3 Us) (h0 : 0 ≤ t) (h1 : t < (d.fo.length : Int)) :
    Calls Tryd.prog 44 #[.int .i64 t, .pointer (some ⟨A, 0, none⟩), .pointer (some ⟨D, 0, none⟩)] w fun e w' => e = .returned (.bool (!inn F (d.f t.toNat))) ∧ Below w.heap.size w w' := by
  obtain ⟨k, rfl⟩ := Int.eq_ofNat_of_zero_le h0
  obtain ⟨a1, c1, a2, c2, a3, c3, e1, e2, e3, l1, m1, l2, m2, l3, m3⟩ := hd.forms
  obtain ⟨b, o, rfl, hcell, hlt⟩ := hd.foAt (s := k) (by omega) e2
  obtain ⟨q1, q2, q3⟩ := hD.hi
  rw [e2] at q2
  have HX : Hid ((bits .andNot .u32 (F : Int) ((d.f k : Nat) : Int) != 0) = !inn F (d.f k)) := inn_neq hF hlt
  rw [Int.toNat_natCast]
  obtain ⟨n2, hn2⟩ : ∃ n2, d.fo.length = n2 := ⟨_, rfl⟩
  obtain ⟨G, hG⟩ : ∃ G, d.f k = G := ⟨_, rfl⟩
  rw [hn2] at q2 h1 l2
  rw [hG] at hcell HX hlt ⊢
  obtain ⟨r, hr⟩ : ∃ r, inn F G = r := ⟨_, rfl⟩
  rw [hr] at HX ⊢
  obtain ⟨x, hx⟩ : ∃ x, bits .andNot .u32 (F : Int) ((G : Nat) : Int) = x := ⟨_, rfl⟩
  rw [hx] at HX
  clear hn2 hG hd hD e1 e2 e3 q1 q3 hr
  go_enter Tryd.func44, Tryd.ntmps44
  go_wp2_with fail
  go_quiet (fail)
  go_wp2
  go_ret
  exact ⟨ret_bool HX.out, below_drewN (Below.refl _ _) _⟩
end Go.Proofs.YtdngileimmgdnaaDoor
