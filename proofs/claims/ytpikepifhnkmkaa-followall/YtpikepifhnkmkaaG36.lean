/- follow: arrival, takeUp, begin, goOver. -/
import Derived.Test.YtpikepifhnkmkaaG35
namespace Go.Proofs.Ytpikepifhnkmkaa
open Go.RowKit Go.Maps Sf Ln Fo
attribute [local go_sem ↓] Go.wp_at_zero Go.wp_at_succ

theorem arr_res {tmps : Array Value} {u : World} {z : Nat} {x : Bool} {a b c e : Value} (h4 : tmps[4]?.getD undef = .pointer (some ⟨z, 0, none⟩)) (h5 : tmps[5]?.getD undef = .bool x) (h : StatB u z a b c e) : (results Try.f55 tmps).run Try.prog u = .ok (.tuple #[.agg #[a, b, c, e], .bool x]) u := by
  have c0 : u.cell? ⟨z, 0, none⟩ = some a := by simp [World.cell?, show u.heap[z]? = _ from h]
  have c1 : u.cell? ⟨z, 1, none⟩ = some b := by simp [World.cell?, show u.heap[z]? = _ from h]
  have c2 : u.cell? ⟨z, 2, none⟩ = some c := by simp [World.cell?, show u.heap[z]? = _ from h]
  have c3 : u.cell? ⟨z, 3, none⟩ = some e := by simp [World.cell?, show u.heap[z]? = _ from h]
  simp [results, Try.results55, go_sem, h4, h5, c0, c1, c2, c3]
theorem statOf_form {d : Dk} {K : Nat} (hw : Wf d K) (s : ByteArray) : ∃ n q g z : Nat, statOf d (if err d s = 0 then num d s else 0) = statV n q g z ∧ (err d s = 0 → n = num d s ∧ q = ser d s ∧ g = genOf d (num d s)) := by
  unfold statOf
  by_cases h : err d s = 0
  · rw [if_pos h]
    obtain ⟨f, hf, hn⟩ := hw.numF (err_zero h).2
    rw [hf]
    exact ⟨_, _, _, _, rfl, fun _ => ⟨rfl, by rw [hn], by unfold genOf; rw [hf]⟩⟩
  · rw [if_neg h]
    have h0 : d.ino 0 = none := by
      cases x : d.ino 0 with
      | none => rfl
      | some f => have := (hw.ino 0 f x).1; omega
    rw [h0]
    exact ⟨_, _, _, _, rfl, fun x => absurd x h⟩
def ArrPost (f : Fo) (d : Dk) (w : World) (e : Ending) (w' : World) : Prop := ∃ n q g z : Nat, e = .returned (.tuple #[statV n q g z, .bool (further f d)]) ∧ (further f d = true → n = num d f.nm ∧ q = ser d f.nm ∧ g = genOf d (num d f.nm)) ∧ Below w.heap.size w w'
set_option maxRecDepth 8000 in
set_option maxHeartbeats 2000000 in
theorem arr_err {w : World} {F Bd n q g z x : Nat} {nm : ByteArray} {ms : Int} (hc1 : w.cell? ⟨F, 1, none⟩ = some (.int .i64 ms)) (hc10 : w.cell? ⟨F, 10, none⟩ = some (.string nm)) (hs : ∀ u, Below w.heap.size w u → Calls Try.prog 19 #[.pointer (some ⟨Bd, 0, none⟩), .string nm] u fun e w' => e = .returned (.tuple #[statV n q g z, .int .i64 (x : Nat)]) ∧ Below u.heap.size u w')
    (e0 : ((x : Int) == 0) = false) :
    Calls Try.prog 55 #[.pointer (some ⟨F, 0, none⟩), .pointer (some ⟨Bd, 0, none⟩)] w fun e w' => e = .returned (.tuple #[statV n q g z, .bool false]) ∧ Below w.heap.size w w' := by
  obtain ⟨w1, hw1⟩ : ∃ w1, w.alloc (.cells #[.int .i64 0, .int .i64 0, .int .i64 0, .int .i64 0] 64) = w1 := ⟨_, rfl⟩
  have k1 : Below w.heap.size w w1 := by rw [← hw1]; exact (Below.refl _ _).alloc (Nat.le_refl _) _
  have HW1 : Hid (w.alloc (.cells #[.int .i64 0, .int .i64 0, .int .i64 0, .int .i64 0] 64) = w1) := hw1
  obtain ⟨z0, hz0⟩ : ∃ z, w.heap.size = z := ⟨_, rfl⟩
  have HZ : Hid (w.heap.size = z0) := hz0
  have HST : Hid (StatB w1 z0 (.int .i64 0) (.int .i64 0) (.int .i64 0) (.int .i64 0)) := by rw [← hw1, ← hz0]; exact heap_alloc_new w _
  have HS : Hid (Calls Try.prog 19 #[.pointer (some ⟨Bd, 0, none⟩), .string nm] w1 fun e w' => e = .returned (.tuple #[statV n q g z, .int .i64 (x : Nat)]) ∧ Below w1.heap.size w1 w') := hs w1 k1
  have c1 : w1.cell? ⟨F, 1, none⟩ = some (.int .i64 ms) := cell_later k1 _ _ _ hc1
  have c10 : w1.cell? ⟨F, 10, none⟩ = some (.string nm) := cell_later k1 _ _ _ hc10
  have HK1 : Hid (Below w.heap.size w w1) := k1
  have HFZ : Hid (F ≠ z0) := fun e => by have := World.block_lt_of_cell? w _ hc1; have e2 : F < w.heap.size := this; omega
  unfold statV at HS ⊢
  clear hs hw1 hz0 k1 hc1 hc10
  go_enter Try.func55, Try.ntmps55
  go_upto_region 1 with fail
  rw [HW1.out, HZ.out]
  clear HW1
  go_wp2_with fail
  refine HS.out.mono ?_
  rintro e w2 ⟨rfl, k2⟩
  obtain ⟨w3, hw3⟩ : ∃ w3, w2.alloc (.cells #[.int .i64 (n : Nat), .int .i64 (q : Nat), .int .i64 (g : Nat), .int .i64 (z : Nat)] 64) = w3 := ⟨_, rfl⟩
  obtain ⟨A, hA⟩ : ∃ A, w2.heap.size = A := ⟨_, rfl⟩
  have k3 : Below w2.heap.size w2 w3 := by rw [← hw3]; exact (Below.refl _ _).alloc (Nat.le_refl _) _
  have k13 : Below w1.heap.size w1 w3 := below_step k2 k3
  have HW3 : Hid (w2.alloc (.cells #[.int .i64 (n : Nat), .int .i64 (q : Nat), .int .i64 (g : Nat), .int .i64 (z : Nat)] 64) = w3 ∧ w2.heap.size = A) := ⟨hw3, hA⟩
  have st3 : StatB w3 A (.int .i64 (n : Nat)) (.int .i64 (q : Nat)) (.int .i64 (g : Nat)) (.int .i64 (z : Nat)) := by rw [← hw3, ← hA]; exact heap_alloc_new w2 _
  obtain ⟨s0, s1, s2, s3, _⟩ := st3.cells
  have sz3 : StatB w3 z0 (.int .i64 0) (.int .i64 0) (.int .i64 0) (.int .i64 0) := (k13.block z0 (Array.getElem?_eq_some_iff.1 HST.out).1).trans HST.out
  obtain ⟨u0, u1, u2, u3, t0⟩ := sz3.cells
  have HE : Hid (∀ a b c e : Value, StatB ((((w3.setCell ⟨z0, 0, none⟩ a).setCell ⟨z0, 1, none⟩ b).setCell ⟨z0, 2, none⟩ c).setCell ⟨z0, 3, none⟩ e).drew z0 a b c e ∧ Below w.heap.size w ((((w3.setCell ⟨z0, 0, none⟩ a).setCell ⟨z0, 1, none⟩ b).setCell ⟨z0, 2, none⟩ c).setCell ⟨z0, 3, none⟩ e).drew) := fun a b c e => stat_set sz3 (below_step HK1.out k13) (by have := HZ.out; omega) a b c e
  have c1' : w3.cell? ⟨F, 1, none⟩ = some (.int .i64 ms) := cell_later k13 _ _ _ c1
  have hAz : A ≠ z0 := fun e => by have := k2.size; have := (Array.getElem?_eq_some_iff.1 HST.out).1; omega
  have hFz : F ≠ z0 := HFZ.out
  clear hw3 hA k3 k13 st3 sz3 HS k2
  go_upto_region 2 with fail
  rw [HW3.out.1, HW3.out.2]
  clear HW3
  go_region
  have HX := HE.out (.int .i64 (n : Nat)) (.int .i64 (q : Nat)) (.int .i64 (g : Nat)) (.int .i64 (z : Nat))
  clear HE
  go_wp2
  refine bodyPost_ret (arr_res rfl rfl HX.1) rfl ?_
  exact ⟨rfl, HX.2⟩
set_option maxRecDepth 8000 in
set_option maxHeartbeats 2000000 in
theorem arr_yes {w : World} {F Bd n q g z x : Nat} {nm : ByteArray} {ms : Int} (hc1 : w.cell? ⟨F, 1, none⟩ = some (.int .i64 ms)) (hc10 : w.cell? ⟨F, 10, none⟩ = some (.string nm)) (hs : ∀ u, Below w.heap.size w u → Calls Try.prog 19 #[.pointer (some ⟨Bd, 0, none⟩), .string nm] u fun e w' => e = .returned (.tuple #[statV n q g z, .int .i64 (x : Nat)]) ∧ Below u.heap.size u w')
    (e0 : ((x : Int) == 0) = true) (e1 : ms < (q : Int)) :
    Calls Try.prog 55 #[.pointer (some ⟨F, 0, none⟩), .pointer (some ⟨Bd, 0, none⟩)] w fun e w' => e = .returned (.tuple #[statV n q g z, .bool true]) ∧ Below w.heap.size w w' := by
  obtain ⟨w1, hw1⟩ : ∃ w1, w.alloc (.cells #[.int .i64 0, .int .i64 0, .int .i64 0, .int .i64 0] 64) = w1 := ⟨_, rfl⟩
  have k1 : Below w.heap.size w w1 := by rw [← hw1]; exact (Below.refl _ _).alloc (Nat.le_refl _) _
  have HW1 : Hid (w.alloc (.cells #[.int .i64 0, .int .i64 0, .int .i64 0, .int .i64 0] 64) = w1) := hw1
  obtain ⟨z0, hz0⟩ : ∃ z, w.heap.size = z := ⟨_, rfl⟩
  have HZ : Hid (w.heap.size = z0) := hz0
  have HST : Hid (StatB w1 z0 (.int .i64 0) (.int .i64 0) (.int .i64 0) (.int .i64 0)) := by rw [← hw1, ← hz0]; exact heap_alloc_new w _
  have HS : Hid (Calls Try.prog 19 #[.pointer (some ⟨Bd, 0, none⟩), .string nm] w1 fun e w' => e = .returned (.tuple #[statV n q g z, .int .i64 (x : Nat)]) ∧ Below w1.heap.size w1 w') := hs w1 k1
  have c1 : w1.cell? ⟨F, 1, none⟩ = some (.int .i64 ms) := cell_later k1 _ _ _ hc1
  have c10 : w1.cell? ⟨F, 10, none⟩ = some (.string nm) := cell_later k1 _ _ _ hc10
  have HK1 : Hid (Below w.heap.size w w1) := k1
  have HFZ : Hid (F ≠ z0) := fun e => by have := World.block_lt_of_cell? w _ hc1; have e2 : F < w.heap.size := this; omega
  unfold statV at HS ⊢
  clear hs hw1 hz0 k1 hc1 hc10
  go_enter Try.func55, Try.ntmps55
  go_upto_region 1 with fail
  rw [HW1.out, HZ.out]
  clear HW1
  go_wp2_with fail
  refine HS.out.mono ?_
  rintro e w2 ⟨rfl, k2⟩
  obtain ⟨w3, hw3⟩ : ∃ w3, w2.alloc (.cells #[.int .i64 (n : Nat), .int .i64 (q : Nat), .int .i64 (g : Nat), .int .i64 (z : Nat)] 64) = w3 := ⟨_, rfl⟩
  obtain ⟨A, hA⟩ : ∃ A, w2.heap.size = A := ⟨_, rfl⟩
  have k3 : Below w2.heap.size w2 w3 := by rw [← hw3]; exact (Below.refl _ _).alloc (Nat.le_refl _) _
  have k13 : Below w1.heap.size w1 w3 := below_step k2 k3
  have HW3 : Hid (w2.alloc (.cells #[.int .i64 (n : Nat), .int .i64 (q : Nat), .int .i64 (g : Nat), .int .i64 (z : Nat)] 64) = w3 ∧ w2.heap.size = A) := ⟨hw3, hA⟩
  have st3 : StatB w3 A (.int .i64 (n : Nat)) (.int .i64 (q : Nat)) (.int .i64 (g : Nat)) (.int .i64 (z : Nat)) := by rw [← hw3, ← hA]; exact heap_alloc_new w2 _
  obtain ⟨s0, s1, s2, s3, _⟩ := st3.cells
  have sz3 : StatB w3 z0 (.int .i64 0) (.int .i64 0) (.int .i64 0) (.int .i64 0) := (k13.block z0 (Array.getElem?_eq_some_iff.1 HST.out).1).trans HST.out
  obtain ⟨u0, u1, u2, u3, t0⟩ := sz3.cells
  have HE : Hid (∀ a b c e : Value, StatB ((((w3.setCell ⟨z0, 0, none⟩ a).setCell ⟨z0, 1, none⟩ b).setCell ⟨z0, 2, none⟩ c).setCell ⟨z0, 3, none⟩ e).drew z0 a b c e ∧ Below w.heap.size w ((((w3.setCell ⟨z0, 0, none⟩ a).setCell ⟨z0, 1, none⟩ b).setCell ⟨z0, 2, none⟩ c).setCell ⟨z0, 3, none⟩ e).drew) := fun a b c e => stat_set sz3 (below_step HK1.out k13) (by have := HZ.out; omega) a b c e
  have c1' : w3.cell? ⟨F, 1, none⟩ = some (.int .i64 ms) := cell_later k13 _ _ _ c1
  have hAz : A ≠ z0 := fun e => by have := k2.size; have := (Array.getElem?_eq_some_iff.1 HST.out).1; omega
  have hFz : F ≠ z0 := HFZ.out
  clear hw3 hA k3 k13 st3 sz3 HS k2
  go_upto_region 2 with fail
  rw [HW3.out.1, HW3.out.2]
  clear HW3
  go_region
  have HX := HE.out (.int .i64 (n : Nat)) (.int .i64 (q : Nat)) (.int .i64 (g : Nat)) (.int .i64 (z : Nat))
  clear HE
  go_wp2
  refine bodyPost_ret (arr_res rfl rfl HX.1) rfl ?_
  exact ⟨rfl, HX.2⟩
set_option maxRecDepth 8000 in
set_option maxHeartbeats 2000000 in
theorem arr_old {w : World} {F Bd n q g z x : Nat} {nm : ByteArray} {ms : Int} (hc1 : w.cell? ⟨F, 1, none⟩ = some (.int .i64 ms)) (hc10 : w.cell? ⟨F, 10, none⟩ = some (.string nm)) (hs : ∀ u, Below w.heap.size w u → Calls Try.prog 19 #[.pointer (some ⟨Bd, 0, none⟩), .string nm] u fun e w' => e = .returned (.tuple #[statV n q g z, .int .i64 (x : Nat)]) ∧ Below u.heap.size u w')
    (e0 : ((x : Int) == 0) = true) (e1 : ¬ ms < (q : Int)) :
    Calls Try.prog 55 #[.pointer (some ⟨F, 0, none⟩), .pointer (some ⟨Bd, 0, none⟩)] w fun e w' => e = .returned (.tuple #[statV n q g z, .bool false]) ∧ Below w.heap.size w w' := by
  obtain ⟨w1, hw1⟩ : ∃ w1, w.alloc (.cells #[.int .i64 0, .int .i64 0, .int .i64 0, .int .i64 0] 64) = w1 := ⟨_, rfl⟩
  have k1 : Below w.heap.size w w1 := by rw [← hw1]; exact (Below.refl _ _).alloc (Nat.le_refl _) _
  have HW1 : Hid (w.alloc (.cells #[.int .i64 0, .int .i64 0, .int .i64 0, .int .i64 0] 64) = w1) := hw1
  obtain ⟨z0, hz0⟩ : ∃ z, w.heap.size = z := ⟨_, rfl⟩
  have HZ : Hid (w.heap.size = z0) := hz0
  have HST : Hid (StatB w1 z0 (.int .i64 0) (.int .i64 0) (.int .i64 0) (.int .i64 0)) := by rw [← hw1, ← hz0]; exact heap_alloc_new w _
  have HS : Hid (Calls Try.prog 19 #[.pointer (some ⟨Bd, 0, none⟩), .string nm] w1 fun e w' => e = .returned (.tuple #[statV n q g z, .int .i64 (x : Nat)]) ∧ Below w1.heap.size w1 w') := hs w1 k1
  have c1 : w1.cell? ⟨F, 1, none⟩ = some (.int .i64 ms) := cell_later k1 _ _ _ hc1
  have c10 : w1.cell? ⟨F, 10, none⟩ = some (.string nm) := cell_later k1 _ _ _ hc10
  have HK1 : Hid (Below w.heap.size w w1) := k1
  have HFZ : Hid (F ≠ z0) := fun e => by have := World.block_lt_of_cell? w _ hc1; have e2 : F < w.heap.size := this; omega
  unfold statV at HS ⊢
  clear hs hw1 hz0 k1 hc1 hc10
  go_enter Try.func55, Try.ntmps55
  go_upto_region 1 with fail
  rw [HW1.out, HZ.out]
  clear HW1
  go_wp2_with fail
  refine HS.out.mono ?_
  rintro e w2 ⟨rfl, k2⟩
  obtain ⟨w3, hw3⟩ : ∃ w3, w2.alloc (.cells #[.int .i64 (n : Nat), .int .i64 (q : Nat), .int .i64 (g : Nat), .int .i64 (z : Nat)] 64) = w3 := ⟨_, rfl⟩
  obtain ⟨A, hA⟩ : ∃ A, w2.heap.size = A := ⟨_, rfl⟩
  have k3 : Below w2.heap.size w2 w3 := by rw [← hw3]; exact (Below.refl _ _).alloc (Nat.le_refl _) _
  have k13 : Below w1.heap.size w1 w3 := below_step k2 k3
  have HW3 : Hid (w2.alloc (.cells #[.int .i64 (n : Nat), .int .i64 (q : Nat), .int .i64 (g : Nat), .int .i64 (z : Nat)] 64) = w3 ∧ w2.heap.size = A) := ⟨hw3, hA⟩
  have st3 : StatB w3 A (.int .i64 (n : Nat)) (.int .i64 (q : Nat)) (.int .i64 (g : Nat)) (.int .i64 (z : Nat)) := by rw [← hw3, ← hA]; exact heap_alloc_new w2 _
  obtain ⟨s0, s1, s2, s3, _⟩ := st3.cells
  have sz3 : StatB w3 z0 (.int .i64 0) (.int .i64 0) (.int .i64 0) (.int .i64 0) := (k13.block z0 (Array.getElem?_eq_some_iff.1 HST.out).1).trans HST.out
  obtain ⟨u0, u1, u2, u3, t0⟩ := sz3.cells
  have HE : Hid (∀ a b c e : Value, StatB ((((w3.setCell ⟨z0, 0, none⟩ a).setCell ⟨z0, 1, none⟩ b).setCell ⟨z0, 2, none⟩ c).setCell ⟨z0, 3, none⟩ e).drew z0 a b c e ∧ Below w.heap.size w ((((w3.setCell ⟨z0, 0, none⟩ a).setCell ⟨z0, 1, none⟩ b).setCell ⟨z0, 2, none⟩ c).setCell ⟨z0, 3, none⟩ e).drew) := fun a b c e => stat_set sz3 (below_step HK1.out k13) (by have := HZ.out; omega) a b c e
  have c1' : w3.cell? ⟨F, 1, none⟩ = some (.int .i64 ms) := cell_later k13 _ _ _ c1
  have hAz : A ≠ z0 := fun e => by have := k2.size; have := (Array.getElem?_eq_some_iff.1 HST.out).1; omega
  have hFz : F ≠ z0 := HFZ.out
  clear hw3 hA k3 k13 st3 sz3 HS k2
  go_upto_region 2 with fail
  rw [HW3.out.1, HW3.out.2]
  clear HW3
  go_region
  have HX := HE.out (.int .i64 (n : Nat)) (.int .i64 (q : Nat)) (.int .i64 (g : Nat)) (.int .i64 (z : Nat))
  clear HE
  go_wp2
  refine bodyPost_ret (arr_res (x := false) rfl (by first | rfl | simp [e1]) HX.1) rfl ?_
  exact ⟨rfl, HX.2⟩
theorem arrival_fn {w : World} {F B Bd K C : Nat} {V : Value} {f : Fo} {P : Nat → Prop} {d : Dk} (h : FoAt w F B V f) (hk : f.Ok C) (hd : Dsk P w Bd d K) :
    Calls Try.prog 55 #[.pointer (some ⟨F, 0, none⟩), .pointer (some ⟨Bd, 0, none⟩)] w (ArrPost f d w) := by
  obtain ⟨n, q, g, z, hso, hnq⟩ := statOf_form hd.wf f.nm
  have hs : ∀ u, Below w.heap.size w u → Calls Try.prog 19 #[.pointer (some ⟨Bd, 0, none⟩), .string f.nm] u fun e w' => e = .returned (.tuple #[statV n q g z, .int .i64 (err d f.nm : Nat)]) ∧ Below u.heap.size u w' := fun u hu => by
    have := stat_any (hd.later hu) f.nm (by have := hk.nm; unfold maxLen; omega)
    rw [hso] at this
    exact this
  have c1 := h.b.cells.2.1
  have c10 := h.b.losses.2.2.2.2.2.1
  by_cases hx : err d f.nm = 0
  · have hq := (hnq hx).2.1
    have e0 : ((err d f.nm : Int) == 0) = true := by simp; omega
    by_cases hl : f.m.s < (q : Int)
    · have hf : further f d = true := further_iff.2 ⟨hx, by rw [← hq]; exact hl⟩
      exact (arr_yes c1 c10 hs e0 hl).mono fun e w' y => ⟨n, q, g, z, by rw [hf]; exact y.1, fun _ => hnq hx, y.2⟩
    · have hf : further f d = false := by
        cases y : further f d with
        | false => rfl
        | true => exact absurd (by rw [hq]; exact (further_iff.1 y).2) hl
      exact (arr_old c1 c10 hs e0 hl).mono fun e w' y => ⟨n, q, g, z, by rw [hf]; exact y.1, fun _ => hnq hx, y.2⟩
  · have e0 : ((err d f.nm : Int) == 0) = false := by simp; omega
    have hf : further f d = false := by
      cases y : further f d with
      | false => rfl
      | true => exact absurd (further_iff.1 y).1 hx
    exact (arr_err c1 c10 hs e0).mono fun e w' y => ⟨n, q, g, z, by rw [hf]; exact y.1, fun z => (by rw [hf] at z; cases z), y.2⟩
end Go.Proofs.Ytpikepifhnkmkaa

/- follow: takeUp, begin. -/
namespace Go.Proofs.Ytpikepifhnkmkaa
open Go.RowKit Go.Maps Sf Ln Fo
attribute [local go_sem ↓] Go.wp_at_zero Go.wp_at_succ

set_option maxRecDepth 8000 in
set_option maxHeartbeats 2000000 in
theorem takeUp_fn {w : World} {F B C : Nat} {V : Value} {f : Fo} (h : FoAt w F B V f) (hk : f.Ok C) {n q g z : Nat} (hq : f.m.s < (q : Int)) (hq2 : q ≤ 1000000) :
    Calls Try.prog 56 #[.pointer (some ⟨F, 0, none⟩), statV n q g z] w fun e w' => e = .returned (.tuple #[]) ∧ FTo F B V (f.take q n g) w w' := by
  obtain ⟨w1, hw1⟩ : ∃ w1, w.alloc (.cells #[.int .i64 (n : Nat), .int .i64 (q : Nat), .int .i64 (g : Nat), .int .i64 (z : Nat)] 64) = w1 := ⟨_, rfl⟩
  obtain ⟨A, hA⟩ : ∃ A, w.heap.size = A := ⟨_, rfl⟩
  have k1 : Below w.heap.size w w1 := by rw [← hw1]; exact (Below.refl _ _).alloc (Nat.le_refl _) _
  have HW1 : Hid (w.alloc (.cells #[.int .i64 (n : Nat), .int .i64 (q : Nat), .int .i64 (g : Nat), .int .i64 (z : Nat)] 64) = w1 ∧ w.heap.size = A) := ⟨hw1, hA⟩
  have st1 : StatB w1 A (.int .i64 (n : Nat)) (.int .i64 (q : Nat)) (.int .i64 (g : Nat)) (.int .i64 (z : Nat)) := by rw [← hw1, ← hA]; exact heap_alloc_new w _
  obtain ⟨s0, s1, s2, _, _⟩ := st1.cells
  have h1 : FTo F B V f w w1 := FTo.below h k1
  have hm1 := h.later k1
  have hs := hk.m.s
  have c1 := hm1.b.cells.2.1
  have HR : Hid (∀ x, x = (q : Int) - f.m.s - 1 → Calls Try.prog 38 #[.pointer (some ⟨F, 5, none⟩), .int .i64 x] w1.drew fun e w' => e = .returned (.tuple #[]) ∧ w' = (w1.drew.setCell ⟨F, 5, none⟩ (.int .i64 (raise f.m.ms ((q : Int) - f.m.s - 1)))).drew) := fun x hx => by
    subst hx
    unfold top at hs
    exact raise_fn (w := w1.drew) hm1.b.losses.1 (hm1.b.frozen 5) hk.m.ms ⟨by omega, by omega⟩
  have HT : Hid (FTo F B V ⟨{ f.m with ms := raise f.m.ms ((q : Int) - f.m.s - 1) }, f.nm, f.ck, f.k⟩ w (w1.drew.setCell ⟨F, 5, none⟩ (.int .i64 (raise f.m.ms ((q : Int) - f.m.s - 1)))).drew) := by
    have t1 := (FTo.below h (k1.drew)).set (f' := ⟨{ f.m with ms := raise f.m.ms ((q : Int) - f.m.s - 1) }, f.nm, f.ck, f.k⟩) 5 (.int .i64 (raise f.m.ms ((q : Int) - f.m.s - 1))) rfl rfl
    exact t1.after (drew_below _ 1)
  obtain ⟨ms, hms⟩ : ∃ ms, f.m.s = ms := ⟨_, rfl⟩
  have HMS : Hid (f.m.s = ms) := hms
  rw [hms] at c1 hq
  unfold top at hs
  rw [hms] at hs
  obtain ⟨hs1, hs2⟩ := hs
  rw [hms] at HR HT
  have tw1 : IntKind.i64.wrap ((q : Int) - ms) = (q : Int) - ms := by rw [IntKind.wrap_i64]; omega
  have tw2 : IntKind.i64.wrap ((q : Int) - ms - 1) = (q : Int) - ms - 1 := by rw [IntKind.wrap_i64]; omega
  unfold statV
  have HAF : Hid (A ≠ F) := fun e => by have := h.b.lt; omega
  have HS3 : Hid (StatB (w1.drew.setCell ⟨F, 5, none⟩ (.int .i64 (raise f.m.ms ((q : Int) - ms - 1)))).drew A (.int .i64 (n : Nat)) (.int .i64 (q : Nat)) (.int .i64 (g : Nat)) (.int .i64 (z : Nat))) := (Below.heap_setCell w1.drew ⟨F, 5, none⟩ _ A (fun e => HAF.out e)).trans st1
  clear h h1 hm1 hk hw1 hA k1 st1
  go_enter Try.func56, Try.ntmps56
  go_upto_region 1 with fail
  rw [HW1.out.1, HW1.out.2]
  obtain ⟨w3, hw3⟩ : ∃ w3, (w1.drew.setCell ⟨F, 5, none⟩ (.int .i64 (raise f.m.ms ((q : Int) - ms - 1)))).drew = w3 := ⟨_, rfl⟩
  rw [hw3] at HT HR HS3
  clear hms hq2
  go_cut [18] from 4 to 18 (fun _ wx => wx = w3)
  case first =>
    go_region_with (go_at_call 38; refine (HR.out _ (by omega)).mono ?_; rintro e u ⟨rfl, hu⟩; have HU : Hid (u = w3) := hu; clear hu)
    all_goals
      go_wp2_with fail
      go_meet
      case rel => exact HU.out
  case rest =>
  rw [hcut]
  have HT2 : Hid (FTo F B V ⟨{ f.m with ms := raise f.m.ms ((q : Int) - ms - 1), s := (q : Int) }, f.nm, f.ck, f.k⟩ w (w3.setCell ⟨F, 1, none⟩ (.int .i64 (q : Nat)))) := HT.out.set 1 _ rfl rfl
  obtain ⟨V3, a3, _⟩ := HT.out
  have e1 := a3.b.cells.2.1
  have q1 := a3.b.frozen 1
  have y1 : w3.cell? ⟨A, 1, none⟩ = some (.int .i64 (q : Nat)) := HS3.out.cells.2.1
  obtain ⟨w4, hw4⟩ : ∃ w4, w3.setCell ⟨F, 1, none⟩ (.int .i64 (q : Nat)) = w4 := ⟨_, rfl⟩
  have st4 : StatB w4 A (.int .i64 (n : Nat)) (.int .i64 (q : Nat)) (.int .i64 (g : Nat)) (.int .i64 (z : Nat)) := by rw [← hw4]; exact (Below.heap_setCell w3 ⟨F, 1, none⟩ _ A (fun e => HAF.out e)).trans HS3.out
  rw [hw4] at HT2
  have HW4 : Hid (w3.setCell ⟨F, 1, none⟩ (.int .i64 (q : Nat)) = w4) := hw4
  obtain ⟨z0, _, z2, _, _⟩ := st4.cells
  have HH : Hid (Calls Try.prog 39 #[.pointer (some ⟨F, 0, none⟩), .int .i64 (n : Nat), .int .i64 (g : Nat)] w4 fun e w' => e = .returned (.tuple #[]) ∧ FTo F B V (f.take q n g) w w') := by
    obtain ⟨V4, a4, _⟩ := id HT2.out
    refine (hold_fn a4 (n : Nat) (g : Nat)).mono fun e w' x => ⟨x.1, HT2.out.then fun V5 a5 => ?_⟩
    rw [a5.same a4]
    have := x.2
    unfold Fo.take
    rw [HMS.out]
    exact this
  clear a3 hw4 st4 HT HT2 HR s0 s1 s2 c1 tw1 tw2
  go_upto_region 3 with fail
  rw [HW4.out]
  go_wp2_with fail
  refine HH.out.mono ?_
  rintro e w5 ⟨rfl, h5⟩
  have HE : Hid (FTo F B V (f.take q n g) w w5) := h5
  clear h5 HH
  go_wp2
  first | go_end0 | (simp only [Exit.inBlock, Exit.then]; refine bodyPost_ret (results_none rfl _ _ _) rfl ?_) | refine bodyPost_ret (results_none rfl _ _ _) rfl ?_
  exact ⟨rfl, HE.out⟩
end Go.Proofs.Ytpikepifhnkmkaa
