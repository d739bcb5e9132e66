/- ring.New and All, of alerts. -/
import Derived.Test.YtmdhlaccioaomaaG09
namespace Go.Proofs.Ytmdhlaccioaomaa
open Go.RowKit Go.Maps Rg
attribute [local go_sem ↓] Go.wp_at_zero Go.wp_at_succ loadAl_eq storeAl_eq

theorem infT : (Try.prog.info? 41).map (fun i => (i.zero, i.size, i.bytes)) = some (some (alV alZ), 12, 104) := by kernel_rfl
theorem make_als (n : Nat) (hn : n ≤ 1000000) (u : World) : (Instr.makeSlice 32 (.int .i64 (n : Nat)) (.int .i64 (n : Nat))).run Try.prog u = .ok (.slice (some ⟨u.heap.size, 0, none⟩) n n) (u.alloc (.cells (madeCells (alV alZ).cells (n * 12)) 41)) := by
  obtain ⟨i0, hi, hz0, hz1, hz2⟩ := info_parts infT
  have h := run_make (P := Try.prog) u 32 41 i0 (alV alZ) Try.underlying32 hi hz0 .i64 .i64 (n : Nat) (n : Nat) (by omega) (Int.le_refl _) (by rw [hz2]; omega) (by omega)
  simp only [Int.toNat_natCast, hz1] at h
  exact h
theorem made_arow (w : World) (n : Nat) : ARow (w.alloc (.cells (madeCells (alV alZ).cells (n * 12)) 41)) w.heap.size n (fun _ => alZ) := by
  refine ⟨_, heap_alloc_new w _, by simp [madeCells], fun p hp j v hv => ?_⟩
  have hj : j < 12 := by
    have := (List.getElem?_eq_some_iff.1 hv).1
    rwa [alC_len] at this
  have e1 : p * 12 + j < n * 12 := by omega
  have e2 : (p * 12 + j) % 12 = j := by omega
  have hs : (alV alZ).cells.size = 12 := rfl
  have hv2 : (alV alZ).cells[j]? = some v := by
    rw [alV_cells]
    simpa using hv
  obtain ⟨h1, h2⟩ := Array.getElem?_eq_some_iff.1 hv2
  simp [madeCells, e1, hs, e2]
  rw [getElem!_pos (alV alZ).cells j h1, h2]
def NewT (z : Int) (B R : Nat) (w w' : World) : Prop := AgAt w' B R z.toNat 0 [] ∧ Below w.heap.size w w' ∧ w.heap.size ≤ B ∧ w.heap.size ≤ R
theorem tnew_bad {w : World} {z : Int} (h : z < 1 ∨ 64 < z) :
    Calls Try.prog 20 #[.int .i64 z] w fun e w' => e = .returned (.tuple #[.pointer none, .int .i64 1]) ∧ w' = w := by
  rcases h with h | h
  · go_enter Try.func20, Try.ntmps20
    go_wp2
    go_ret2
    exact ⟨rfl, rfl⟩
  · have h1 : ¬ z < 1 := by omega
    go_enter Try.func20, Try.ntmps20
    go_wp2
    go_ret2
    exact ⟨rfl, rfl⟩
theorem tnew_any {w : World} {z : Int} (h : 1 ≤ z ∧ z ≤ 64) :
    Calls Try.prog 20 #[.int .i64 z] w fun e w' => ∃ B R, e = .returned (.tuple #[.pointer (some ⟨B, 0, none⟩), .int .i64 0]) ∧ NewT z B R w w' := by
  obtain ⟨n, rfl⟩ := Int.eq_ofNat_of_zero_le (a := z) (by omega)
  obtain ⟨w1, hw1⟩ : ∃ w1, w.alloc (.cells (madeCells (alV alZ).cells (n * 12)) 41) = w1 := ⟨_, rfl⟩
  have hmk := make_als n (by omega) w
  rw [hw1] at hmk
  have k1 : Below w.heap.size w w1 := by rw [← hw1]; exact below_new w _
  have r1 : ARow w1 w.heap.size n (fun _ => alZ) := by rw [← hw1]; exact made_arow w n
  have s1 : w1.heap.size = w.heap.size + 1 := by rw [← hw1]; exact Array.size_push ..
  obtain ⟨R, hR⟩ : ∃ R, w.heap.size = R := ⟨_, rfl⟩
  rw [hR] at r1 s1 hmk
  have k2 : Below w1.heap.size w1 (w1.alloc (.cells #[.slice (some ⟨R, 0, none⟩) n n, .int .i64 0, .int .i64 0] 83)) := below_new w1 _
  have HF : Hid (NewT (n : Nat) w1.heap.size R w (w1.alloc (.cells #[.slice (some ⟨R, 0, none⟩) n n, .int .i64 0, .int .i64 0] 83))) :=
    ⟨⟨heap_alloc_new w1 _, (r1.same (k2.block R r1.lt)).congr fun p hp => rfl, by simp; omega, by simp, by simp; omega⟩, below_step k1 k2, by omega, by omega⟩
  have h1 : ¬ (n : Int) < 1 := by omega
  have h2 : ¬ (64 : Int) < n := by omega
  clear hw1 k1 r1 s1 k2 hR
  go_enter Try.func20, Try.ntmps20
  go_wp2
  go_ret2
  exact ⟨_, rfl, _, HF.out⟩
/-- All, filled in one by one -/
structure AllT (w : World) (A m k : Nat) (l : List Al) (u : World) : Prop where
  r : ARow u A m (fun p => if p < k then l.getD p alZ else alZ)
  lo : Below w.heap.size w u
  a : w.heap.size ≤ A
theorem AllT.next {w u : World} {A m k : Nat} {l : List Al} (h : AllT w A m k l u) (hk : k < m) {z : Al} (hz : l.getD k alZ = z) : AllT w A m (k + 1) l (u.drew.drew.setCells A (k * 12) (alC z)) := by
  have hp := h.r.drew.drew.put hk z
  refine ⟨hp.congr fun p hp => ?_, below_puts (below_d (below_d h.lo)) h.a _ _, h.a⟩
  by_cases e : p = k
  · subst e; rw [if_pos rfl, if_pos (by omega), hz]
  · rw [if_neg e]
    by_cases h2 : p < k
    · rw [if_pos h2, if_pos (by omega)]
    · rw [if_neg h2, if_neg (by omega)]
set_option maxRecDepth 8000 in
theorem tall_any {w : World} {B R n f : Nat} {l : List Al} (h : AgAt w B R n f l) :
    Calls Try.prog 24 #[.pointer (some ⟨B, 0, none⟩)] w fun e w' => ∃ A, e = .returned (.slice (some ⟨A, 0, none⟩) l.length l.length) ∧ ARow w' A l.length (fun p => l.getD p alZ) ∧ w.heap.size ≤ A ∧ Below w.heap.size w w' := by
  obtain ⟨m, hm⟩ : ∃ m, l.length = m := ⟨_, rfl⟩
  have hmn : m ≤ n := by rw [← hm]; exact h.l
  have hm64 : m ≤ 64 := by have := h.n; omega
  obtain ⟨w1, hw1⟩ : ∃ w1, w.alloc (.cells (madeCells (alV alZ).cells (m * 12)) 41) = w1 := ⟨_, rfl⟩
  have hmk := make_als m (by omega) w
  rw [hw1] at hmk
  have k1 : Below w.heap.size w w1 := by rw [← hw1]; exact below_new w _
  have r1 : ARow w1 w.heap.size m (fun _ => alZ) := by rw [← hw1]; exact made_arow w m
  obtain ⟨A, hA⟩ : ∃ A, w.heap.size = A := ⟨_, rfl⟩
  have HL : Hid (l.length = m) := hm
  have HA : Hid (w.heap.size = A) := hA
  rw [hA] at r1 hmk
  rw [hm]
  have H0 : Hid (AllT w A m 0 l w1) := ⟨r1, k1, Nat.le_of_eq hA⟩
  have HH : Hid (AgAt w B R n f l) := h
  obtain ⟨c0, c1, c2⟩ := h.b.cells
  rw [hm] at c2
  clear h hm hw1 k1 r1 hA
  go_enter Try.func24, Try.ntmps24
  go_wp2_with fail
  go_loopw [12] (fun i u => ∃ k : Nat, i = .int .i64 (k : Nat) ∧ k ≤ m ∧ Hid (AllT w A m k l u)) (fun i _ => m - (Go.RowKit.intOf i).toNat)
  case atStart => exact ⟨0, rfl, Nat.zero_le _, H0⟩
  case round =>
    obtain ⟨k, rfl, hk, HI⟩ := hrel
    clear H0 hmk
    by_cases hlt : k < m
    · have l1 : (k : Int) < (m : Int) := by omega
      have hr := HH.out.later HI.out.lo
      obtain ⟨d0, d1, d2⟩ := hr.b.cells
      obtain ⟨p, hp⟩ : ∃ p, (f + k) % n = p := ⟨_, rfl⟩
      have hpn : p < n := by rw [← hp]; exact place_lt hr.f
      have HPL : Hid (∀ u, RBox u B R n f m → Calls Try.prog 38 #[.pointer (some ⟨B, 0, none⟩), .int .i64 (k : Nat)] u fun e w' => e = .returned (.int .i64 (p : Nat)) ∧ w' = u.drew) := fun u hu => by rw [← hp]; exact tplace_any hu HH.out.f HH.out.n k (by omega)
      obtain ⟨z, hz⟩ : ∃ z, l.getD k alZ = z := ⟨_, rfl⟩
      have d3 := hr.drew.drew.r.load hpn
      rw [← hp, rd_at hr.f hr.l (by rw [HL.out]; exact hlt), hp] at d3
      rw [show l[k]'(by rw [HL.out]; exact hlt) = z by rw [← hz, List.getD_eq_getElem?_getD, List.getElem?_eq_getElem (by rw [HL.out]; exact hlt)]; rfl] at d3
      have d4 := HI.out.r.drew.drew.store hlt z
      have hn9 := HI.out.next hlt hz
      obtain ⟨w5, hw5⟩ : ∃ w5, wr.drew.drew.setCells A (k * 12) (alC z) = w5 := ⟨_, rfl⟩
      rw [hw5] at d4 hn9
      have HN : Hid (AllT w A m (k + 1) l w5) := hn9
      have hb1 := hr.drew.b
      rw [HL.out] at hb1
      have HB1 : Hid (RBox wr.drew B R n f m) := hb1
      clear hr hp hz HI hb1 hn9 hw5
      go_upto_region 5 with fail
      go_region_with (go_at_call 38; refine (HPL.out _ HB1.out).mono ?_; rintro e u ⟨rfl, rfl⟩)
      all_goals
        go_wp2_with fail
        go_roundw
        case rel => exact ⟨k + 1, by go_num, by omega, HN⟩
        case measure => simp [Go.RowKit.intOf]; omega
    · have l1 : ¬ (k : Int) < (m : Int) := by omega
      obtain rfl : k = m := by omega
      go_wp2_with fail
      go_ret
      exact ⟨_, rfl, HI.out.r.congr (fun p hp => if_pos hp), HI.out.a, HI.out.lo⟩
end Go.Proofs.Ytmdhlaccioaomaa
