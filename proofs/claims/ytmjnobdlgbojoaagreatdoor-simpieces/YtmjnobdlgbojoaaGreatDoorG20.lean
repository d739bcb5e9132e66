
import Derived.Test.YtmjnobdlgbojoaaGreatDoorG19
import Derived.Test.YtmjnobdlgbojoaaGreatDoorG00
import Derived.Test.YtmjnobdlgbojoaaGreatDoorRows
import Derived.Test.YtmjnobdlgbojoaaGreatDoorG01
import Derived.Test.YtmjnobdlgbojoaaGreatDoorG08
import Derived.Test.YtmjnobdlgbojoaaGreatDoorG09
import Derived.Test.YtmjnobdlgbojoaaGreatDoorG12
import Derived.Test.YtmjnobdlgbojoaaGreatDoorG17
import Derived.Test.YtmjnobdlgbojoaaGreatDoorG18
import Derived.WalkKit
import Derived.WalkLawsBesides
import Derived.WalkSpells
import Derived.OwnWalk
import Derived.Laws.BitsAllLaws
import Derived.Deep.QuietTactic
import Derived.BigQuiet
import Derived.Laws.StructEq
import Derived.Orders
import Derived.Deep.AppendLies
import Derived.WideShapes
import Derived.Deep.DeepAppendRoom
import Derived.Deep.DrawnRows
import Derived.Deep.DeepCutAuto
namespace Go.Proofs.YtmjnobdlgbojoaaGreatDoor
open Go.RowKit
attribute [local go_sem ↓] Go.wp_at_zero Go.wp_at_succ
set_option maxRecDepth 4000 in
set_option maxHeartbeats 8000000 in
theorem fits_any (S : Int) (e : Eg) (w : World) : Calls Tryz.prog 54 #[e.val, .int .i64 S] w fun r w' => r = .returned (.bool (okE S e)) ∧ Below w.heap.size w w' := by
  obtain ⟨w0, hw0⟩ : ∃ w0, w0 = w.alloc (.cells #[.int .i64 e.k, .int .i64 e.f, .int .i64 e.t, .int .u64 (Oct.word e.s 0 : Nat), .int .u64 (Oct.word e.s 1 : Nat), .int .u64 (Oct.word e.s 2 : Nat), .int .u64 (Oct.word e.s 3 : Nat)] 66) := ⟨_, rfl⟩
  obtain ⟨w1, hw1⟩ : ∃ w1, w1 = w0.alloc (.cells #[.int .u64 0, .int .u64 0, .int .u64 0, .int .u64 0] 28) := ⟨_, rfl⟩
  have z0 : w0.heap.size = w.heap.size + 1 := by rw [hw0]; simp
  have k0 : Below w.heap.size w w0 := by rw [hw0]; exact (Below.refl _ _).alloc (Nat.le_refl _) _
  have k1 : Below w0.heap.size w0 w1 := by rw [hw1]; exact (Below.refl _ _).alloc (Nat.le_refl _) _
  have HN : Hid (w1.heap[w.heap.size]? = some (.cells #[.int .i64 e.k, .int .i64 e.f, .int .i64 e.t, .int .u64 (Oct.word e.s 0 : Nat), .int .u64 (Oct.word e.s 1 : Nat), .int .u64 (Oct.word e.s 2 : Nat), .int .u64 (Oct.word e.s 3 : Nat)] 66 (0, 0))) := by
    have hb0 : w0.heap[w.heap.size]? = some (.cells #[.int .i64 e.k, .int .i64 e.f, .int .i64 e.t, .int .u64 (Oct.word e.s 0 : Nat), .int .u64 (Oct.word e.s 1 : Nat), .int .u64 (Oct.word e.s 2 : Nat), .int .u64 (Oct.word e.s 3 : Nat)] 66 (0, 0)) := by rw [hw0]; exact heap_alloc_new w _
    exact (k1.block _ (by omega)).trans hb0
  have HZ : Hid (SB w1 (w.heap.size + 1) Oct.none) := by have hb1 : SB w1 w0.heap.size Oct.none := (by rw [hw1]; exact sb_zero w0); rw [z0] at hb1; exact hb1
  have HB : Hid (Below w.heap.size w w1) := below_step k0 k1
  have HW1 : Hid (w0.alloc (.cells #[.int .u64 0, .int .u64 0, .int .u64 0, .int .u64 0] 28) = w1) := hw1.symm
  have HW0 : Hid (w.alloc (.cells #[.int .i64 e.k, .int .i64 e.f, .int .i64 e.t, .int .u64 (Oct.word e.s 0 : Nat), .int .u64 (Oct.word e.s 1 : Nat), .int .u64 (Oct.word e.s 2 : Nat), .int .u64 (Oct.word e.s 3 : Nat)] 66) = w0) := hw0.symm
  obtain ⟨A, hA⟩ : ∃ A, A = w.heap.size := ⟨_, rfl⟩
  obtain ⟨Z, hZ⟩ : ∃ Z, Z = w.heap.size + 1 := ⟨_, rfl⟩
  rw [← hA] at HN
  rw [← hZ] at HZ
  have HAA : Hid (A = w.heap.size) := hA
  have HZZ : Hid (Z = w.heap.size + 1) := hZ
  clear hw0 hw1 z0 k0 k1 hA hZ
  obtain ⟨k, f, t, s⟩ := e
  simp only at HN HW0
  have b0 : w1.cell? ⟨A, 0, none⟩ = some (.int .i64 k) := by simp [World.cell?, HN.out]
  have b1 : w1.cell? ⟨A, 1, none⟩ = some (.int .i64 f) := by simp [World.cell?, HN.out]
  have b2 : w1.cell? ⟨A, 2, none⟩ = some (.int .i64 t) := by simp [World.cell?, HN.out]
  have b3 : w1.cell? ⟨A, 3, none⟩ = some (.int .u64 (Oct.word s 0 : Nat)) := by simp [World.cell?, HN.out]
  have b4 : w1.cell? ⟨A, 4, none⟩ = some (.int .u64 (Oct.word s 1 : Nat)) := by simp [World.cell?, HN.out]
  have b5 : w1.cell? ⟨A, 5, none⟩ = some (.int .u64 (Oct.word s 2 : Nat)) := by simp [World.cell?, HN.out]
  have b6 : w1.cell? ⟨A, 6, none⟩ = some (.int .u64 (Oct.word s 3 : Nat)) := by simp [World.cell?, HN.out]
  obtain ⟨q0, q1, q2, q3⟩ := HZ.out.cells
  rw [word0] at q0 q1 q2 q3
  obtain ⟨z, hz⟩ : ∃ z, noSet s = z := ⟨_, rfl⟩
  have HEQ : Hid (∀ u, (Op.equalIn 10000 28 (.agg #[.int .u64 (Oct.word s 0 : Nat), .int .u64 (Oct.word s 1 : Nat), .int .u64 (Oct.word s 2 : Nat), .int .u64 (Oct.word s 3 : Nat)]) (.agg #[.int .u64 0, .int .u64 0, .int .u64 0, .int .u64 0])).run Tryz.prog u = .ok z u) := fun u => by rw [← hz]; exact eq4_zero _ _ _ _ u
  have HNS : Hid (noSet s = z) := hz
  obtain ⟨ok, hok⟩ : ∃ ok, okE S ⟨k, f, t, s⟩ = ok := ⟨_, rfl⟩
  have HOK : Hid (okE S ⟨k, f, t, s⟩ = ok) := hok
  rw [hok]
  clear hok
  unfold Eg.val
  simp only
  go_enter Tryz.func54, Tryz.ntmps54
  go_upto_region 2 with fail
  rw [HW0.out, HW1.out, ← HZZ.out, ← HAA.out]
  clear HW0 HW1 hz
  have heq := HEQ.out
  by_cases h2 : k = 2
  · subst h2
    by_cases hf0 : 0 ≤ f
    case neg =>
      have HX : Hid (ok = false) := by show _ = _; rw [← HOK.out]; unfold okE; simp; omega
      have g0 : ¬ (0 : Int) ≤ f := hf0
      go_wp2
      go_ret
      exact ⟨by rw [HX.out]; rfl, HB.out⟩
    by_cases hf1 : f < S
    case neg =>
      have HX : Hid (ok = false) := by show _ = _; rw [← HOK.out]; unfold okE; simp; omega
      go_wp2
      go_ret
      exact ⟨by rw [HX.out]; rfl, HB.out⟩
    by_cases ht0 : 0 ≤ t
    case neg =>
      have HX : Hid (ok = false) := by show _ = _; rw [← HOK.out]; unfold okE; simp; omega
      go_wp2
      go_ret
      exact ⟨by rw [HX.out]; rfl, HB.out⟩
    by_cases ht1 : t < S
    case neg =>
      have HX : Hid (ok = false) := by show _ = _; rw [← HOK.out]; unfold okE; simp; omega
      go_wp2
      go_ret
      exact ⟨by rw [HX.out]; rfl, HB.out⟩
    have HX : Hid (ok = true) := by show _ = _; rw [← HOK.out]; unfold okE; simp; omega
    go_wp2
    go_ret
    exact ⟨by rw [HX.out]; rfl, HB.out⟩
  have g2 : (k == 2) = false := by simp [h2]
  by_cases hk : k = 1 ∨ k = 3 ∨ k = 4
  case neg =>
    have g1 : (k == 1) = false := by simp; omega
    have g3 : (k == 3) = false := by simp; omega
    have g4 : (k == 4) = false := by simp; omega
    have HX : Hid (ok = false) := by show _ = _; rw [← HOK.out]; unfold okE; simp; omega
    go_wp2
    go_ret
    exact ⟨by rw [HX.out]; rfl, HB.out⟩
  cases z with
  | false =>
    have HX : Hid (ok = false) := by show _ = _; rw [← HOK.out]; unfold okE; simp [HNS.out]; omega
    rcases hk with rfl | rfl | rfl
    all_goals
      go_wp2
      go_ret
      exact ⟨by rw [HX.out]; rfl, HB.out⟩
  | true =>
    rcases hk with rfl | rfl | rfl
    all_goals
      by_cases hf0 : 0 ≤ f
      case neg =>
        have HX : Hid (ok = false) := by show _ = _; rw [← HOK.out]; unfold okE; simp; omega
        have g0 : ¬ (0 : Int) ≤ f := hf0
        go_wp2
        go_ret
        exact ⟨by rw [HX.out]; rfl, HB.out⟩
      by_cases hf1 : f < S
      case neg =>
        have HX : Hid (ok = false) := by show _ = _; rw [← HOK.out]; unfold okE; simp; omega
        go_wp2
        go_ret
        exact ⟨by rw [HX.out]; rfl, HB.out⟩
      by_cases ht0 : 0 ≤ t
      case neg =>
        have HX : Hid (ok = false) := by show _ = _; rw [← HOK.out]; unfold okE; simp; omega
        go_wp2
        go_ret
        exact ⟨by rw [HX.out]; rfl, HB.out⟩
      by_cases ht1 : t < S
      case neg =>
        have HX : Hid (ok = false) := by show _ = _; rw [← HOK.out]; unfold okE; simp; omega
        go_wp2
        go_ret
        exact ⟨by rw [HX.out]; rfl, HB.out⟩
      have HX : Hid (ok = true) := by show _ = _; rw [← HOK.out]; unfold okE; simp [HNS.out]; omega
      go_wp2
      go_ret
      exact ⟨by rw [HX.out]; rfl, HB.out⟩
set_option maxRecDepth 4000 in
set_option maxHeartbeats 4000000 in
theorem right1_any (S : Int) (A : Nat) (e : Eg) (w : World) (hA : w.cell? ⟨A, 0, none⟩ = some (.int .i64 S)) : Calls Tryz.prog 53 #[e.val, .pointer (some ⟨A, 0, none⟩)] w fun r w' => r = .returned (.bool (!okE S e)) ∧ Below w.heap.size w w' := by
  have kk : Below w.heap.size w (w.alloc (.cells #[.int .i64 e.k, .int .i64 e.f, .int .i64 e.t, .int .u64 (Oct.word e.s 0 : Nat), .int .u64 (Oct.word e.s 1 : Nat), .int .u64 (Oct.word e.s 2 : Nat), .int .u64 (Oct.word e.s 3 : Nat)] 66)) := (Below.refl _ _).alloc (Nat.le_refl _) _
  have HB : Hid (Below w.heap.size w (w.alloc (.cells #[.int .i64 e.k, .int .i64 e.f, .int .i64 e.t, .int .u64 (Oct.word e.s 0 : Nat), .int .u64 (Oct.word e.s 1 : Nat), .int .u64 (Oct.word e.s 2 : Nat), .int .u64 (Oct.word e.s 3 : Nat)] 66))) := kk
  have HN : Hid ((w.alloc (.cells #[.int .i64 e.k, .int .i64 e.f, .int .i64 e.t, .int .u64 (Oct.word e.s 0 : Nat), .int .u64 (Oct.word e.s 1 : Nat), .int .u64 (Oct.word e.s 2 : Nat), .int .u64 (Oct.word e.s 3 : Nat)] 66)).heap[w.heap.size]? = some (.cells #[.int .i64 e.k, .int .i64 e.f, .int .i64 e.t, .int .u64 (Oct.word e.s 0 : Nat), .int .u64 (Oct.word e.s 1 : Nat), .int .u64 (Oct.word e.s 2 : Nat), .int .u64 (Oct.word e.s 3 : Nat)] 66 (0, 0))) := heap_alloc_new w _
  have a0 : (w.alloc (.cells #[.int .i64 e.k, .int .i64 e.f, .int .i64 e.t, .int .u64 (Oct.word e.s 0 : Nat), .int .u64 (Oct.word e.s 1 : Nat), .int .u64 (Oct.word e.s 2 : Nat), .int .u64 (Oct.word e.s 3 : Nat)] 66)).cell? ⟨A, 0, none⟩ = some (.int .i64 S) := (World.cell?_of_block (w := w) (kk.block A (lt_of_cell hA))).trans hA
  obtain ⟨w1, hw1⟩ : ∃ w1, w.alloc (.cells #[.int .i64 e.k, .int .i64 e.f, .int .i64 e.t, .int .u64 (Oct.word e.s 0 : Nat), .int .u64 (Oct.word e.s 1 : Nat), .int .u64 (Oct.word e.s 2 : Nat), .int .u64 (Oct.word e.s 3 : Nat)] 66) = w1 := ⟨_, rfl⟩
  rw [hw1] at HB HN a0
  obtain ⟨E, hE⟩ : ∃ E, w.heap.size = E := ⟨_, rfl⟩
  rw [hE] at HN
  have HW1 : Hid (w.alloc (.cells #[.int .i64 e.k, .int .i64 e.f, .int .i64 e.t, .int .u64 (Oct.word e.s 0 : Nat), .int .u64 (Oct.word e.s 1 : Nat), .int .u64 (Oct.word e.s 2 : Nat), .int .u64 (Oct.word e.s 3 : Nat)] 66) = w1) := hw1
  have HEE : Hid (w.heap.size = E) := hE
  have HC : Hid (Calls Tryz.prog 54 #[e.val, .int .i64 S] w1 _) := fits_any S e w1
  clear hw1 hE kk hA
  obtain ⟨ok, hok⟩ : ∃ ok, okE S e = ok := ⟨_, rfl⟩
  rw [hok] at HC ⊢
  clear hok
  obtain ⟨k, f, t, s⟩ := e
  simp only at HN HW1
  have b0 : w1.cell? ⟨E, 0, none⟩ = some (.int .i64 k) := by simp [World.cell?, HN.out]
  have b1 : w1.cell? ⟨E, 1, none⟩ = some (.int .i64 f) := by simp [World.cell?, HN.out]
  have b2 : w1.cell? ⟨E, 2, none⟩ = some (.int .i64 t) := by simp [World.cell?, HN.out]
  have b3 : w1.cell? ⟨E, 3, none⟩ = some (.int .u64 (Oct.word s 0 : Nat)) := by simp [World.cell?, HN.out]
  have b4 : w1.cell? ⟨E, 4, none⟩ = some (.int .u64 (Oct.word s 1 : Nat)) := by simp [World.cell?, HN.out]
  have b5 : w1.cell? ⟨E, 5, none⟩ = some (.int .u64 (Oct.word s 2 : Nat)) := by simp [World.cell?, HN.out]
  have b6 : w1.cell? ⟨E, 6, none⟩ = some (.int .u64 (Oct.word s 3 : Nat)) := by simp [World.cell?, HN.out]
  unfold Eg.val at HC
  unfold Eg.val
  simp only at HC ⊢
  go_enter Tryz.func53, Tryz.ntmps53
  go_upto_region 1 with fail
  rw [HW1.out, HEE.out]
  clear HW1
  go_wp2_with fail
  refine HC.out.mono ?_
  rintro r w2 ⟨rfl, k2⟩
  have HB2 : Hid (Below w.heap.size w w2) := below_step HB.out k2
  clear k2 HC
  go_wp2
  go_ret
  exact ⟨rfl, HB2.out⟩
set_option maxRecDepth 4000 in
set_option maxHeartbeats 8000000 in
theorem indexE_any {X : Nat → Prop} (S : Int) (A : Nat) (es : List Eg) (a : Option Addr) (n c : Nat) (w : World) (hn : es.length = n) (hm : n ≤ 35184372088832) (hE : EAt X w a es) (hA : w.cell? ⟨A, 0, none⟩ = some (.int .i64 S)) : Calls Tryz.prog 72 #[.slice a n c, .func (.func 53) #[] #[.pointer (some ⟨A, 0, none⟩)]] w fun r w' => ∃ i : Int, r = .returned (.int .i64 i) ∧ decide (0 ≤ i) = (!es.all (okE S)) ∧ Below w.heap.size w w' := by
  have HE : Hid (EAt X w a es) := hE
  have HN : Hid (es.length = n) := hn
  have HA : Hid (w.cell? ⟨A, 0, none⟩ = some (.int .i64 S)) := hA
  clear hE hn hA
  go_enter Tryz.func72, Tryz.ntmps72
  go_wp2_with fail
  go_loopw [8] (fun i u => ∃ j : Nat, i = .int .i64 (j : Nat) ∧ j ≤ n ∧ Hid ((es.take j).all (okE S) = true) ∧ Hid (Below w.heap.size w u)) (fun i _ => n - (intOf i).toNat)
  case atStart => exact ⟨0, rfl, Nat.zero_le _, by show _ = _; simp, Below.refl _ _⟩
  case round =>
    obtain ⟨j, rfl, hjn, HAL, HB⟩ := hrel
    by_cases hlt : j < n
    · have hlt' : (j : Int) < (n : Int) := by omega
      obtain ⟨e, he⟩ : ∃ e, es[j]? = some e := ⟨_, List.getElem?_eq_getElem (by rw [HN.out]; exact hlt)⟩
      have hrow := (HE.out.keep (w' := wr) (Y := X) (fun _ h _ => h) (fun b _ hlt => HB.out.block b hlt)).nth he
      obtain ⟨g, off, rfl, e0, e1, e2, e3, e4, e5, e6⟩ := hrow
      have HC : Hid (Calls Tryz.prog 53 #[e.val, .pointer (some ⟨A, 0, none⟩)] wr _) := right1_any S A e wr ((World.cell?_of_block (w := w) (HB.out.block A (lt_of_cell HA.out))).trans HA.out)
      have HTA : Hid ((es.take (j + 1)).all (okE S) = okE S e) := by
        show _ = _
        rw [List.take_add_one, he, List.all_append, HAL.out]
        simp
      have HNO : Hid (okE S e = false → es.all (okE S) = false) := fun h => by
        rw [List.all_eq_false]
        exact ⟨e, List.mem_of_getElem? he, by simp [h]⟩
      obtain ⟨ok, hok⟩ : ∃ ok, okE S e = ok := ⟨_, rfl⟩
      rw [hok] at HC HTA HNO
      clear hok he
      unfold Eg.val at HC
      go_wp2_with fail
      refine HC.out.mono ?_
      rintro r w2 ⟨rfl, k2⟩
      have HB2 : Hid (Below w.heap.size w w2) := below_step HB.out k2
      clear k2 HC HB e0 e1 e2 e3 e4 e5 e6
      cases ok with
      | true =>
        go_wp2
        go_roundw
        case rel => exact ⟨j + 1, by go_num, by omega, HTA, HB2⟩
        case measure => simp [intOf]; omega
      | false =>
        have HF := HNO.out rfl
        go_wp2
        go_ret
        exact ⟨(j : Int), rfl, by rw [HF]; simp, HB2.out⟩
    · have hlt' : ¬ (j : Int) < (n : Int) := by omega
      have HF : Hid (es.all (okE S) = true) := by
        show _ = _
        rw [← HAL.out, List.take_of_length_le (by rw [HN.out]; omega)]
      go_wp2
      go_ret
      exact ⟨-1, rfl, by rw [HF.out]; decide, HB.out⟩
set_option maxRecDepth 4000 in
theorem containsE_any {X : Nat → Prop} (S : Int) (A : Nat) (es : List Eg) (a : Option Addr) (n c : Nat) (w : World) (hn : es.length = n) (hm : n ≤ 35184372088832) (hE : EAt X w a es) (hA : w.cell? ⟨A, 0, none⟩ = some (.int .i64 S)) : Calls Tryz.prog 52 #[.slice a n c, .func (.func 53) #[] #[.pointer (some ⟨A, 0, none⟩)]] w fun r w' => r = .returned (.bool (!es.all (okE S))) ∧ Below w.heap.size w w' := by
  have HC : Hid (Calls Tryz.prog 72 #[.slice a n c, .func (.func 53) #[] #[.pointer (some ⟨A, 0, none⟩)]] w _) := indexE_any S A es a n c w hn hm hE hA
  clear hn hm hE hA
  go_enter Tryz.func52, Tryz.ntmps52
  go_wp2_with fail
  refine HC.out.mono ?_
  rintro r w2 ⟨i, rfl, hi, k2⟩
  have HI : Hid (decide (0 ≤ i) = (!es.all (okE S))) := hi
  have HB : Hid (Below w.heap.size w w2) := k2
  clear hi k2 HC
  by_cases h0 : 0 ≤ i
  · have h1 : decide (0 ≤ i) = true := by simp [h0]
    go_wp2
    go_ret
    exact ⟨by rw [← HI.out, h1]; rfl, HB.out⟩
  · have h1 : decide (0 ≤ i) = false := by simp [h0]
    go_wp2
    go_ret
    exact ⟨by rw [← HI.out, h1]; rfl, HB.out⟩
set_option maxRecDepth 4000 in
set_option maxHeartbeats 4000000 in
theorem pright_any (M : Ma) (x : Nf) (w : World) (hx : MaAt (fun _ => True) w M x) (he : M.es.length ≤ 35184372088832) (hr : M.rs.length ≤ 35184372088832) : Calls Tryz.prog 25 #[x.val] w fun e w' => e = .returned (.bool (rightOf M)) ∧ Below w.heap.size w w' := by
  have kk : Below w.heap.size w (w.alloc (.cells #[.int .i64 x.S, .slice x.ea x.en x.ec, .slice x.ra x.rn x.rc] 37)) := (Below.refl _ _).alloc (Nat.le_refl _) _
  have HNX : Hid (NFB (w.alloc (.cells #[.int .i64 x.S, .slice x.ea x.en x.ec, .slice x.ra x.rn x.rc] 37)) w.heap.size x) := nfb_new w x
  have HB : Hid (Below w.heap.size w (w.alloc (.cells #[.int .i64 x.S, .slice x.ea x.en x.ec, .slice x.ra x.rn x.rc] 37))) := kk
  have HMX : Hid (MaAt (fun _ => True) (w.alloc (.cells #[.int .i64 x.S, .slice x.ea x.en x.ec, .slice x.ra x.rn x.rc] 37)) M x) := hx.later kk
  obtain ⟨w2, hw2⟩ : ∃ w2, w.alloc (.cells #[.int .i64 x.S, .slice x.ea x.en x.ec, .slice x.ra x.rn x.rc] 37) = w2 := ⟨_, rfl⟩
  rw [hw2] at HNX HB HMX
  obtain ⟨A, hA⟩ : ∃ A, w.heap.size = A := ⟨_, rfl⟩
  rw [hA] at HNX
  have HW2 : Hid (w.alloc (.cells #[.int .i64 x.S, .slice x.ea x.en x.ec, .slice x.ra x.rn x.rc] 37) = w2) := hw2
  have HAA : Hid (w.heap.size = A) := hA
  clear hw2 hA kk hx
  obtain ⟨xS, xa, xn, xc, xra, xrn, xrc⟩ := x
  have e1 : xS = M.S := HMX.out.s
  have e3 : xn = M.es.length := HMX.out.n
  have e5 : xrn = M.rs.length := HMX.out.r
  subst e1 e3 e5
  obtain ⟨n, hn⟩ : ∃ n, M.es.length = n := ⟨_, rfl⟩
  obtain ⟨rn, hrn⟩ : ∃ rn, M.rs.length = rn := ⟨_, rfl⟩
  obtain ⟨S, hS⟩ : ∃ S, M.S = S := ⟨_, rfl⟩
  have HE : Hid (EAt (fun _ => True) w2 xa M.es) := HMX.out.e
  have HRO : Hid (rightOf M = (decide (1 ≤ S) && decide ((rn : Int) = S) && M.es.all (okE S))) := by show _ = _; unfold rightOf; rw [hS, hrn]
  clear HMX
  rw [hn] at HNX HW2 he
  rw [hrn] at HNX HW2 hr
  rw [hS] at HNX HW2
  obtain ⟨x0, x1, x2⟩ := HNX.out.cells
  simp only at x0 x1 x2
  have HC : Hid (Calls Tryz.prog 52 #[.slice xa n xc, .func (.func 53) #[] #[.pointer (some ⟨A, 0, none⟩)]] w2 _) := containsE_any S A M.es xa n xc w2 hn he HE.out x0
  unfold Nf.val
  simp only at HW2 ⊢
  rw [hn, hrn, hS]
  clear hn hrn hS
  go_enter Tryz.func25, Tryz.ntmps25
  go_upto_region 1 with fail
  rw [HW2.out, HAA.out]
  clear HW2
  have hmf : ∀ (fn : Fn) (first cap : Array Value) (w : World), (Instr.makeFunc fn first cap).run Tryz.prog w = .ok (.func fn first cap) w := fun _ _ _ _ => rfl
  by_cases hS1 : S < 1
  · have HNo : Hid (rightOf M = false) := by show _ = _; rw [HRO.out, show decide (1 ≤ S) = false by simp; omega]; rfl
    go_wp2
    go_ret
    exact ⟨by rw [HNo.out]; rfl, HB.out⟩
  by_cases hSr : (rn : Int) = S
  · have hSr2 : ((rn : Int) != S) = false := by simp [hSr]
    have hSr3 : ((rn : Int) == S) = true := by simp [hSr]
    have HYes : Hid (rightOf M = M.es.all (okE S)) := by show _ = _; rw [HRO.out, show decide (1 ≤ S) = true by simp; omega, show decide ((rn : Int) = S) = true by simp [hSr]]; simp
    have HSR : Hid ((rn : Int) = S) := hSr
    clear hSr
    obtain ⟨v, hv⟩ : ∃ v, M.es.all (okE S) = v := ⟨_, rfl⟩
    rw [hv] at HC HYes
    clear hv
    go_wp2_with fail
    refine HC.out.mono ?_
    rintro r w3 ⟨rfl, k3⟩
    have HB3 : Hid (Below w.heap.size w w3) := below_step HB.out k3
    clear k3 HC
    go_wp2
    go_ret
    exact ⟨by rw [HYes.out]; simp, HB3.out⟩
  · have HNo : Hid (rightOf M = false) := by show _ = _; rw [HRO.out, show decide ((rn : Int) = S) = false by simp [hSr]]; simp
    have hSr2 : ((rn : Int) != S) = true := by simp [hSr]
    have hSr3 : ((rn : Int) == S) = false := by simp [hSr]
    go_wp2
    go_ret
    exact ⟨by rw [HNo.out]; rfl, HB.out⟩
end Go.Proofs.YtmjnobdlgbojoaaGreatDoor


namespace Go.Proofs.YtmjnobdlgbojoaaGreatDoor
open Go.RowKit
attribute [local go_sem ↓] Go.wp_at_zero Go.wp_at_succ
theorem RowI.fmb {u u' : World} {b0 B Y base : Nat} {V : Value} {l : List Nat} {m : Mk} (h : RowI u base V l) (hm : BB u b0 B Y m) (hf : Fm b0 B u u') : RowI u' base V l :=
  h.keep (fun b _ hlt ht => hf.block b hlt (hm.ne ht (by decide)) (fun _ h2 => absurd (TyB.ne ht h2) (by decide)))
def Kp (B : Nat) (w0 u : World) : Prop := w0.heap.size ≤ u.heap.size ∧ ∀ b, b < w0.heap.size → b ≠ B → u.heap[b]? = w0.heap[b]?
structure Sb (w0 : World) (b0 B Y A : Nat) (x : Nd) (w u : World) (m : Mk) : Prop where
  bb : BB u b0 B Y m
  nb : NB u A x
  fm : Fm b0 B w u
  low : Kp B w0 u
  sz : b0 ≤ u.heap.size
  h0 : w0.heap.size ≤ b0
section
variable {w0 : World} {b0 B Y A : Nat} {x : Nd} {w u u' : World} {m m' : Mk}
theorem Sb.later (h : Sb w0 b0 B Y A x w u m) (hb : Below u.heap.size u u') : Sb w0 b0 B Y A x w u' m :=
  ⟨h.bb.later hb, h.nb.later hb, h.fm.later hb, ⟨Nat.le_trans h.low.1 hb.size, fun b hlt hne => (hb.block b (Nat.lt_of_lt_of_le hlt h.low.1)).trans (h.low.2 b hlt hne)⟩, Nat.le_trans h.sz hb.size, h.h0⟩
theorem Sb.call (h : Sb w0 b0 B Y A x w u m) (hm : BB u' b0 B Y m') (hf : Fm b0 B u u') : Sb w0 b0 B Y A x w u' m' :=
  ⟨hm, hf.keep h.nb (h.bb.ne ⟨_, _, h.nb⟩ (by decide)) (by decide), h.fm.trans hf, ⟨Nat.le_trans h.low.1 hf.size, fun b hlt hne => (hf.block b (Nat.lt_of_lt_of_le hlt h.low.1) hne (fun h2 => absurd h.h0 (by omega))).trans (h.low.2 b hlt hne)⟩, Nat.le_trans h.sz hf.size, h.h0⟩
theorem Sb.own (h : Sb w0 b0 B Y A x w u m) {r : Option Nat} (hg : u.grownBy u' r) (hr : ∀ k, r = some k → w.heap.size ≤ k ∧ TyB u 3 k) (hw : b0 ≤ w.heap.size) : Sb w0 b0 B Y A x w u' m := by
  refine ⟨h.bb.grown hg (fun k hk t ht => TyB.ne ht (hr k hk).2), (hg.block A h.nb.lt (fun e => absurd (TyB.ne (hr A e.symm).2 ⟨_, _, h.nb⟩) (by decide))).trans h.nb, ⟨hg.os.trans h.fm.os, hg.tape.trans h.fm.tape, hg.output.trans h.fm.output, Nat.le_trans h.fm.size hg.size, fun k hk hne ht => ?_⟩, ?_, Nat.le_trans h.sz hg.size, h.h0⟩
  · exact (hg.block k (Nat.lt_of_lt_of_le hk h.fm.size) (fun e => by have := (hr k e.symm).1; omega)).trans (h.fm.block k hk hne ht)
  · exact ⟨Nat.le_trans h.low.1 hg.size, fun k hk hne => (hg.block k (Nat.lt_of_lt_of_le hk h.low.1) (fun e => by have := (hr k e.symm).1; have := h.h0; omega)).trans (h.low.2 k hk hne)⟩
theorem sb_start (w0 : World) (x : Nd) (hm : BB w b0 B Y m) (hlow : Kp B w0 w) (hb : b0 ≤ w.heap.size) (h0 : w0.heap.size ≤ b0) : Sb w0 b0 B Y w.heap.size x w (w.alloc (.cells #[.int .i64 x.k, .int .u64 (Oct.word x.s 0 : Nat), .int .u64 (Oct.word x.s 1 : Nat), .int .u64 (Oct.word x.s 2 : Nat), .int .u64 (Oct.word x.s 3 : Nat), .slice x.a x.n x.c, .int .i64 x.mn, .int .i64 x.mx] 30)) m := by
  have kk : Below w.heap.size w (w.alloc (.cells #[.int .i64 x.k, .int .u64 (Oct.word x.s 0 : Nat), .int .u64 (Oct.word x.s 1 : Nat), .int .u64 (Oct.word x.s 2 : Nat), .int .u64 (Oct.word x.s 3 : Nat), .slice x.a x.n x.c, .int .i64 x.mn, .int .i64 x.mx] 30)) := (Below.refl _ _).alloc (Nat.le_refl _) _
  exact ⟨hm.later kk, nb_new w x, Fm.of_below b0 B kk, ⟨Nat.le_trans hlow.1 kk.size, fun b hlt hne => (kk.block b (Nat.lt_of_lt_of_le hlt hlow.1)).trans (hlow.2 b hlt hne)⟩, Nat.le_trans hb kk.size, h0⟩
end
def WayV (f : FuncId) (w0 : World) (B : Nat) (t : Tn) (v : Nd) : Prop := ∀ (w : World) (b0 Y : Nat) (m : Mk) (a : Nat), Kp B w0 w → w0.heap.size ≤ b0 → b0 ≤ w.heap.size → BB w b0 B Y m → (lay t m a).1.S ≤ 1000000 → (lay t m a).1.es.length ≤ 1000000 →
  Calls Tryz.prog f #[.pointer (some ⟨B, 0, none⟩), v.val, .int .i64 (a : Nat)] w fun e w' => e = .returned (.int .i64 ((lay t m a).2 : Nat)) ∧ BB w' b0 B Y (lay t m a).1 ∧ Fm b0 B w w'
abbrev LayV (w0 : World) (B : Nat) (t : Tn) (v : Nd) : Prop := WayV 21 w0 B t v
end Go.Proofs.YtmjnobdlgbojoaaGreatDoor


namespace Go.Proofs.YtmjnobdlgbojoaaGreatDoor
open Go.RowKit
attribute [local go_sem ↓] Go.wp_at_zero Go.wp_at_succ
section
variable {o : Oper} {a : Act} {w w' : World} {r : Value → Prop} {Q : Exit → Act → World → Prop}
attribute [local go_sem] Oper.semAt_some
set_option maxRecDepth 20000 in
theorem og_ways {p B : Nat} (ho : o.op = .fieldAddr 60 (.tmp p) 0) (hx : T a p = .pointer (some ⟨B, 0, none⟩)) (hr : r (.pointer (some ⟨B, 0, none⟩))) : o.wp Tryz.prog a w (Got r o a w) Q := by
  obtain ⟨dst, op, type, pos, after, guard⟩ := o
  simp only at ho
  subst ho
  refine og_value (v := .pointer (some ⟨B, 0, none⟩)) ?_ hr
  simp [execOp, Act.eval, hx, go_sem]
set_option maxRecDepth 20000 in
theorem og_kind {p B : Nat} (ho : o.op = .fieldAddr 30 (.tmp p) 0) (hx : T a p = .pointer (some ⟨B, 0, none⟩)) (hr : r (.pointer (some ⟨B, 0, none⟩))) : o.wp Tryz.prog a w (Got r o a w) Q := by
  obtain ⟨dst, op, type, pos, after, guard⟩ := o
  simp only at ho
  subst ho
  refine og_value (v := .pointer (some ⟨B, 0, none⟩)) ?_ hr
  simp [execOp, Act.eval, hx, go_sem]
theorem og_load63 {p : Nat} {ad : Addr} {v : Value} (ho : o.op = .load 57 (.tmp p)) (hx : T a p = .pointer (some ad)) (hc : w.cell? ad = some v) (hr : r v) : o.wp Tryz.prog a w (Got r o a w) Q := by
  obtain ⟨dst, op, type, pos, after, guard⟩ := o
  simp only at ho
  subst ho
  refine og_value (v := v) ?_ hr
  simp [execOp, Act.eval, hx, go_sem, hc]
theorem og_load89 {p : Nat} {ad : Addr} {v : Value} (ho : o.op = .load 97 (.tmp p)) (hx : T a p = .pointer (some ad)) (hc : w.cell? ad = some v) (hr : r v) : o.wp Tryz.prog a w (Got r o a w) Q := by
  obtain ⟨dst, op, type, pos, after, guard⟩ := o
  simp only at ho
  subst ho
  refine og_value (v := v) ?_ hr
  simp [execOp, Act.eval, hx, go_sem, hc]
set_option maxRecDepth 20000 in
theorem og_index63 {p q Y k : Nat} (ho : o.op = .indexAddr 57 (.tmp p) (.tmp q)) (hx : T a p = .slice (some ⟨Y, 0, none⟩) 8 8) (hy : T a q = .int .i64 (k : Nat)) (hk : k < 8) (hr : r (.pointer (some ⟨Y, k, none⟩))) : o.wp Tryz.prog a w (Got r o a w) Q := by
  obtain ⟨dst, op, type, pos, after, guard⟩ := o
  simp only at ho
  subst ho
  refine og_value (v := .pointer (some ⟨Y, k, none⟩)) ?_ hr
  have hk' : (k : Int) < 8 := by omega
  simp [execOp, Act.eval, hx, hy, go_sem, hk']
theorem oc_callv {K : Act → World → Prop} {p q1 q2 q3 f : Nat} {ts : Array TypeId} {v1 v2 v3 : Value} (ho : o.op = .call { callee := .value (.tmp p), args := #[.tmp q1, .tmp q2, .tmp q3], argTypes := ts }) (hf : Enters f) (hx : T a p = .func (.func f) #[] #[]) (h1 : T a q1 = v1) (h2 : T a q2 = v2) (h3 : T a q3 = v3) (hc : Calls Tryz.prog f #[v1, v2, v3] w fun e w' => ∃ v, e = .returned v ∧ K (a.put o.dst v) w') : o.wp Tryz.prog a w K Q := by
  obtain ⟨dst, op, type, pos, after, guard⟩ := o
  simp only at ho
  subst ho
  refine oc_enter (args := #[v1, v2, v3]) ?_ hc
  simp [Act.eval, hx, h1, h2, h3, go_sem]
  exact hf _ _
end
def R29 (B Y A k f a : Nat) (v : Nd) : Nat → Value → Prop
  | 0, x => x = .pointer (some ⟨B, 0, none⟩)
  | 1, x => x = .pointer (some ⟨B, 0, none⟩)
  | 2, x => x = .pointer (some ⟨B, 0, none⟩)
  | 3, x => x = .slice (some ⟨Y, 0, none⟩) 8 8
  | 4, x => x = .pointer (some ⟨A, 0, none⟩)
  | 5, x => x = .int .i64 (k : Nat)
  | 6, x => x = .pointer (some ⟨Y, k, none⟩)
  | 7, x => x = .func (.func f) #[] #[]
  | 8, x => x = .pointer (some ⟨B, 0, none⟩)
  | 9, x => x = v.val
  | 10, x => x = .int .i64 (a : Nat)
  | _, _ => True
def Rd29 (B Y A k f : Nat) (v : Nd) (u : World) : Prop := u.cell? ⟨B, 0, none⟩ = some (.slice (some ⟨Y, 0, none⟩) 8 8) ∧ NB u A v ∧ u.cell? ⟨Y, k, none⟩ = some (.func (.func f) #[] #[])
def S29 (B A a : Nat) (W : World) (P : World → Prop) (res : Value) (j : Nat) (x : Act) (u : World) : Prop :=
  x.tmps.size = 19 ∧ x.defers = [] ∧ T x 0 = .pointer (some ⟨B, 0, none⟩) ∧ T x 2 = .int .i64 (a : Nat) ∧ T x 4 = .pointer (some ⟨A, 0, none⟩) ∧
    (if j = 11 then u = W.drew else if j = 12 then T x 18 = res ∧ P u else T x 6 = res ∧ P u)
theorem put_T {x : Act} {d e : Nat} {v : Value} (h : d ≠ e) : T (x.put (some d) v) e = T x e := put_other h
theorem put_T' {x : Act} {d : Nat} {v : Value} (h : d < x.tmps.size) : T (x.put (some d) v) d = v := put_same h
theorem put_size {x : Act} {d : Nat} {v : Value} : (x.put (some d) v).tmps.size = x.tmps.size := by simp [Act.put]
theorem S29.put {B A a : Nat} {W : World} {P : World → Prop} {res : Value} {j : Nat} {x : Act} {u : World} (h : S29 B A a W P res j x u) {d : Nat} (hd : 7 ≤ d) (hd2 : d < 18) (v : Value) : S29 B A a W P res j (x.put (some d) v) u := by
  obtain ⟨h1, h2, h3, h4, h5, h6⟩ := h
  refine ⟨by rw [put_size, h1], by simp [Act.put, h2], by rw [put_T (by omega), h3], by rw [put_T (by omega), h4], by rw [put_T (by omega), h5], ?_⟩
  rw [put_T (by omega), put_T (by omega)]
  exact h6
set_option maxRecDepth 100000 in
set_option maxHeartbeats 1000000 in
theorem reg29 {act : Act} {W : World} {B Y A k f a : Nat} {v : Nd} {P : World → Prop} {res : Value} {Q : Exit → Act → World → Prop} (hd : act.defers = []) (hT0 : T act 0 = .pointer (some ⟨B, 0, none⟩)) (hT2 : T act 2 = .int .i64 (a : Nat)) (hT4 : T act 4 = .pointer (some ⟨A, 0, none⟩)) (hsz : act.tmps.size = 19)
    (hRd : Rd29 B Y A k f v W) (hPR : ∀ u, P u → Rd29 B Y A k f v u) (hk : v.k = (k : Nat)) (hk8 : k < 8) (hf : Enters f)
    (hC : Calls Tryz.prog f #[.pointer (some ⟨B, 0, none⟩), v.val, .int .i64 (a : Nat)] W.drew fun e w' => e = .returned res ∧ P w')
    (K : ∀ a' W', a'.defers = [] → T a' 6 = res → P W' → Q .normal a' W') : (Code.region 1 (opsOf Tryz.f21 1) true).wp Tryz.prog Q act W := by
  refine wp_region_chain (by kernel_rfl) 11 13 (by kernel_rfl) (by decide) (fun i => 7 + i) (R29 B Y A k f a v) (S29 B A a W P res) ?put ?sz ?inj (by kernel_rfl) ?duty ?fin ⟨hsz, hd, hT0, hT2, hT4, by rw [if_pos rfl]⟩
  case put =>
    intro j x u i y hi h
    exact h.put (by omega) (by omega) y
  case sz =>
    intro j x u i hi h
    rw [h.1]
    show 7 + i < 19
    omega
  case inj =>
    intro i j _ _ h
    exact Nat.add_left_cancel h
  case fin =>
    intro x u h _
    obtain ⟨h1, h2, h3, h4, h5, h6⟩ := h
    rw [if_neg (by decide), if_neg (by decide)] at h6
    exact K x u h2 h6.1 h6.2
  case duty =>
    have hrd : ∀ {j : Nat} {x : Act} {u : World}, S29 B A a W P res j x u → Rd29 B Y A k f v u := fun {j x u} h => by
      have h6 := h.2.2.2.2.2
      by_cases h11 : j = 11
      · rw [if_pos h11] at h6
        subst h6
        exact hRd
      · rw [if_neg h11] at h6
        by_cases h12 : j = 12
        · rw [if_pos h12] at h6
          exact hPR u h6.2
        · rw [if_neg h12] at h6
          exact hPR u h6.2
    refine ⟨⟨rfl, by simp, fun _ => ⟨rfl, fun j x u hS hE Q => ?s0⟩, fun h => absurd h (by decide)⟩, ⟨rfl, by simp, fun _ => ⟨rfl, fun j x u hS hE Q => ?s1⟩, fun h => absurd h (by decide)⟩, ⟨rfl, by simp, fun _ => ⟨rfl, fun j x u hS hE Q => ?s2⟩, fun h => absurd h (by decide)⟩, ⟨rfl, by simp, fun _ => ⟨rfl, fun j x u hS hE Q => ?s3⟩, fun h => absurd h (by decide)⟩, ⟨rfl, by simp, fun _ => ⟨rfl, fun j x u hS hE Q => ?s4⟩, fun h => absurd h (by decide)⟩, ⟨rfl, by simp, fun _ => ⟨rfl, fun j x u hS hE Q => ?s5⟩, fun h => absurd h (by decide)⟩, ⟨rfl, by simp, fun _ => ⟨rfl, fun j x u hS hE Q => ?s6⟩, fun h => absurd h (by decide)⟩, ⟨rfl, by simp, fun _ => ⟨rfl, fun j x u hS hE Q => ?s7⟩, fun h => absurd h (by decide)⟩, ⟨rfl, by simp, fun _ => ⟨rfl, fun j x u hS hE Q => ?s8⟩, fun h => absurd h (by decide)⟩, ⟨rfl, by simp, fun _ => ⟨rfl, fun j x u hS hE Q => ?s9⟩, fun h => absurd h (by decide)⟩, ⟨rfl, by simp, fun _ => ⟨rfl, fun j x u hS hE Q => ?s10⟩, fun h => absurd h (by decide)⟩, ⟨rfl, by simp, fun h => absurd h (by decide), fun _ x u hS hE => ?c11⟩, ⟨rfl, by simp, fun h => absurd h (by decide), fun _ x u hS hE => ?c12⟩, trivial⟩
    case s0 => exact og_move rfl hS.2.2.1 rfl
    case s1 => exact og_nil rfl (hE ⟨0, .data⟩ (by simp) rfl) rfl
    case s2 => exact og_ways rfl (hE ⟨1, .data⟩ (by simp) rfl) rfl
    case s3 => exact og_load63 rfl (hE ⟨2, .data⟩ (by simp) rfl) (hrd hS).1 rfl
    case s4 => exact og_kind rfl hS.2.2.2.2.1 rfl
    case s5 => exact og_load3 rfl (hE ⟨4, .data⟩ (by simp) rfl) (hrd hS).2.1.cells.1 (by show _ = _; rw [hk])
    case s6 => exact og_index63 rfl (hE ⟨3, .data⟩ (by simp) rfl) (hE ⟨5, .data⟩ (by simp) rfl) hk8 rfl
    case s7 => exact og_load89 rfl (hE ⟨6, .data⟩ (by simp) rfl) (hrd hS).2.2 rfl
    case s8 => exact og_move rfl hS.2.2.1 rfl
    case s9 => exact og_node rfl hS.2.2.2.2.1 (hrd hS).2.1 rfl
    case s10 => exact og_move rfl hS.2.2.2.1 rfl
    case c11 =>
      obtain ⟨h1, h2, h3, h4, h5, h6⟩ := hS
      rw [if_pos rfl] at h6
      subst h6
      refine oc_callv rfl hf (hE ⟨7, .data⟩ (by simp) (by decide) rfl) (hE ⟨8, .data⟩ (by simp) (by decide) rfl) (hE ⟨9, .data⟩ (by simp) (by decide) rfl) (hE ⟨10, .data⟩ (by simp) (by decide) rfl) (hC.mono ?_)
      rintro e w' ⟨rfl, hP⟩
      refine ⟨res, rfl, ⟨by rw [put_size, h1], by simp [Act.put, h2], by rw [put_T (by decide), h3], by rw [put_T (by decide), h4], by rw [put_T (by decide), h5], ?_⟩, fun j hj => put_T (by omega)⟩
      rw [if_neg (by decide), if_pos rfl]
      exact ⟨put_T' (by omega), hP⟩
    case c12 =>
      obtain ⟨h1, h2, h3, h4, h5, h6⟩ := hS
      rw [if_neg (by decide), if_pos rfl] at h6
      refine oc_assign rfl h6.1 ⟨⟨by rw [put_size, h1], by simp [Act.put, h2], by rw [put_T (by decide), h3], by rw [put_T (by decide), h4], by rw [put_T (by decide), h5], ?_⟩, fun j hj => put_T (by omega)⟩
      rw [if_neg (by decide), if_neg (by decide)]
      exact ⟨put_T' (by omega), h6.2⟩
set_option maxRecDepth 20000 in
set_option maxHeartbeats 4000000 in
theorem disp_any {w0 : World} {B : Nat} {t : Tn} {v : Nd} {k f : Nat} (hk : v.k = (k : Nat)) (hk8 : k < 8) (hf : Enters f) (hfc : ∀ u Y, WB u Y → u.cell? ⟨Y, k, none⟩ = some (.func (.func f) #[] #[])) (hW : WayV f w0 B t v) : LayV w0 B t v := by
  intro w b0 Y m a hlow h0 hb hbb hS hE
  have HSB : Hid (Sb w0 b0 B Y w.heap.size v w (w.alloc (.cells #[.int .i64 v.k, .int .u64 (Oct.word v.s 0 : Nat), .int .u64 (Oct.word v.s 1 : Nat), .int .u64 (Oct.word v.s 2 : Nat), .int .u64 (Oct.word v.s 3 : Nat), .slice v.a v.n v.c, .int .i64 v.mn, .int .i64 v.mx] 30)) m) := sb_start w0 v hbb hlow hb h0
  obtain ⟨w1, hw1⟩ : ∃ w1, w.alloc (.cells #[.int .i64 v.k, .int .u64 (Oct.word v.s 0 : Nat), .int .u64 (Oct.word v.s 1 : Nat), .int .u64 (Oct.word v.s 2 : Nat), .int .u64 (Oct.word v.s 3 : Nat), .slice v.a v.n v.c, .int .i64 v.mn, .int .i64 v.mx] 30) = w1 := ⟨_, rfl⟩
  rw [hw1] at HSB
  obtain ⟨A, hA⟩ : ∃ A, w.heap.size = A := ⟨_, rfl⟩
  rw [hA] at HSB
  have HW1 : Hid (w.alloc (.cells #[.int .i64 v.k, .int .u64 (Oct.word v.s 0 : Nat), .int .u64 (Oct.word v.s 1 : Nat), .int .u64 (Oct.word v.s 2 : Nat), .int .u64 (Oct.word v.s 3 : Nat), .slice v.a v.n v.c, .int .i64 v.mn, .int .i64 v.mx] 30) = w1) := hw1
  have HAA : Hid (w.heap.size = A) := hA
  have hSd : Sb w0 b0 B Y A v w w1.drew m := HSB.out.later ((Below.refl _ _).drew)
  have HC : Hid (Calls Tryz.prog f #[.pointer (some ⟨B, 0, none⟩), v.val, .int .i64 (a : Nat)] w1.drew _) := hW w1.drew b0 Y m a hSd.low h0 hSd.sz hSd.bb hS hE
  have HKK : Hid (v.k = (k : Nat) ∧ k < 8 ∧ Enters f) := ⟨hk, hk8, hf⟩
  have HFC : Hid (∀ u Y, WB u Y → u.cell? ⟨Y, k, none⟩ = some (.func (.func f) #[] #[])) := hfc
  have HSD : Hid (Sb w0 b0 B Y A v w w1.drew m) := hSd
  clear hw1 hA hb h0 hlow hbb hSd hS hE hk hk8 hf hfc hW
  obtain ⟨R, hR⟩ : ∃ R, lay t m a = R := ⟨_, rfl⟩
  rw [hR] at HC ⊢
  clear hR
  unfold Nd.val
  go_enter Tryz.func21, Tryz.ntmps21
  go_upto_region 1 with fail
  rw [HW1.out, HAA.out]
  clear HW1
  have hrd : ∀ (u : World) (m' : Mk), BB u b0 B Y m' → NB u A v → Rd29 B Y A k f v u := fun u m' h1 h2 => by
    obtain ⟨_, _, c0, _, _⟩ := h1.cells
    exact ⟨c0, h2, HFC.out u Y h1.1⟩
  refine reg29 (B := B) (Y := Y) (A := A) (k := k) (f := f) (a := a) (v := v) (P := fun u => BB u b0 B Y R.1 ∧ Fm b0 B w u ∧ NB u A v) (res := .int .i64 (R.2 : Nat)) rfl rfl rfl rfl rfl (hrd w1 m HSB.out.bb HSB.out.nb) (fun u h => hrd u R.1 h.1 h.2.2) HKK.out.1 HKK.out.2.1 HKK.out.2.2 (HC.out.mono ?_) ?_
  · rintro e w' ⟨rfl, h1, h2⟩
    have h3 := HSD.out.call h1 h2
    exact ⟨rfl, h3.bb, h3.fm, h3.nb⟩
  · rintro a' W' hd h6 ⟨h1, h2, _⟩
    go_wp2
    exact bodyPost_ret (v := .int .i64 (R.2 : Nat)) (by simp [results, Tryz.results21, go_sem, h6]) hd ⟨rfl, h1, h2⟩
theorem ent45 : Enters 42 := fun args w => by simp [go_sem]
theorem ent46 : Enters 43 := fun args w => by simp [go_sem]
theorem ent47 : Enters 44 := fun args w => by simp [go_sem]
theorem ent48 : Enters 45 := fun args w => by simp [go_sem]
theorem ent49 : Enters 46 := fun args w => by simp [go_sem]
theorem ent50 : Enters 47 := fun args w => by simp [go_sem]
theorem ent51 : Enters 48 := fun args w => by simp [go_sem]
end Go.Proofs.YtmjnobdlgbojoaaGreatDoor


