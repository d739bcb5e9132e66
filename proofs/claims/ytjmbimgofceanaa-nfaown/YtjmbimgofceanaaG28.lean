/- The program's fits and Right. -/
import Derived.Test.YtjmbimgofceanaaG21
import Derived.Test.YtjmbimgofceanaaG19
namespace Go.Proofs.Ytjmbimgofceanaa
open Go.RowKit
attribute [local go_sem ↓] Go.wp_at_zero Go.wp_at_succ

set_option maxRecDepth 4000 in
set_option maxHeartbeats 8000000 in
theorem fits_any (S : Int) (e : Eg) (w : World) : Calls Try.prog 33 #[e.val, .int .i64 S] w fun r w' => r = .returned (.bool (okE S e)) ∧ Below w.heap.size w w' := by
  obtain ⟨w0, hw0⟩ : ∃ w0, w0 = w.alloc (.cells #[.int .i64 e.k, .int .i64 e.f, .int .i64 e.t, .int .u64 (Oct.word e.s 0 : Nat), .int .u64 (Oct.word e.s 1 : Nat), .int .u64 (Oct.word e.s 2 : Nat), .int .u64 (Oct.word e.s 3 : Nat)] 57) := ⟨_, rfl⟩
  obtain ⟨w1, hw1⟩ : ∃ w1, w1 = w0.alloc (.cells #[.int .u64 0, .int .u64 0, .int .u64 0, .int .u64 0] 27) := ⟨_, rfl⟩
  have z0 : w0.heap.size = w.heap.size + 1 := by rw [hw0]; simp
  have k0 : Below w.heap.size w w0 := by rw [hw0]; exact (Below.refl _ _).alloc (Nat.le_refl _) _
  have k1 : Below w0.heap.size w0 w1 := by rw [hw1]; exact (Below.refl _ _).alloc (Nat.le_refl _) _
  have HN : Hid (w1.heap[w.heap.size]? = some (.cells #[.int .i64 e.k, .int .i64 e.f, .int .i64 e.t, .int .u64 (Oct.word e.s 0 : Nat), .int .u64 (Oct.word e.s 1 : Nat), .int .u64 (Oct.word e.s 2 : Nat), .int .u64 (Oct.word e.s 3 : Nat)] 57 (0, 0))) := by
    have hb0 : w0.heap[w.heap.size]? = some (.cells #[.int .i64 e.k, .int .i64 e.f, .int .i64 e.t, .int .u64 (Oct.word e.s 0 : Nat), .int .u64 (Oct.word e.s 1 : Nat), .int .u64 (Oct.word e.s 2 : Nat), .int .u64 (Oct.word e.s 3 : Nat)] 57 (0, 0)) := by rw [hw0]; exact heap_alloc_new w _
    exact (k1.block _ (by omega)).trans hb0
  have HZ : Hid (SB w1 (w.heap.size + 1) Oct.none) := by have hb1 : SB w1 w0.heap.size Oct.none := (by rw [hw1]; exact sb_zero w0); rw [z0] at hb1; exact hb1
  have HB : Hid (Below w.heap.size w w1) := below_step k0 k1
  have HW1 : Hid (w0.alloc (.cells #[.int .u64 0, .int .u64 0, .int .u64 0, .int .u64 0] 27) = w1) := hw1.symm
  have HW0 : Hid (w.alloc (.cells #[.int .i64 e.k, .int .i64 e.f, .int .i64 e.t, .int .u64 (Oct.word e.s 0 : Nat), .int .u64 (Oct.word e.s 1 : Nat), .int .u64 (Oct.word e.s 2 : Nat), .int .u64 (Oct.word e.s 3 : Nat)] 57) = w0) := hw0.symm
  obtain ⟨A, hA⟩ : ∃ A, A = w.heap.size := ⟨_, rfl⟩
  obtain ⟨Z, hZ⟩ : ∃ Z, Z = w.heap.size + 1 := ⟨_, rfl⟩
  rw [← hA] at HN
  rw [← hZ] at HZ
  have HAA : Hid (A = w.heap.size) := hA
  have HZZ : Hid (Z = w.heap.size + 1) := hZ
  clear hw0 hw1 z0 k0 k1 hA hZ
  obtain ⟨k, f, t, s⟩ := e
  simp only at HN HW0
  have b0 : w1.cell? ⟨A, 0, none⟩ = some (.int .i64 k) := by simp [World.cell?, HN.out]
  have b1 : w1.cell? ⟨A, 1, none⟩ = some (.int .i64 f) := by simp [World.cell?, HN.out]
  have b2 : w1.cell? ⟨A, 2, none⟩ = some (.int .i64 t) := by simp [World.cell?, HN.out]
  have b3 : w1.cell? ⟨A, 3, none⟩ = some (.int .u64 (Oct.word s 0 : Nat)) := by simp [World.cell?, HN.out]
  have b4 : w1.cell? ⟨A, 4, none⟩ = some (.int .u64 (Oct.word s 1 : Nat)) := by simp [World.cell?, HN.out]
  have b5 : w1.cell? ⟨A, 5, none⟩ = some (.int .u64 (Oct.word s 2 : Nat)) := by simp [World.cell?, HN.out]
  have b6 : w1.cell? ⟨A, 6, none⟩ = some (.int .u64 (Oct.word s 3 : Nat)) := by simp [World.cell?, HN.out]
  obtain ⟨q0, q1, q2, q3⟩ := HZ.out.cells
  rw [word0] at q0 q1 q2 q3
  obtain ⟨z, hz⟩ : ∃ z, noSet s = z := ⟨_, rfl⟩
  have HEQ : Hid (∀ u, (Op.equalIn 10000 27 (.agg #[.int .u64 (Oct.word s 0 : Nat), .int .u64 (Oct.word s 1 : Nat), .int .u64 (Oct.word s 2 : Nat), .int .u64 (Oct.word s 3 : Nat)]) (.agg #[.int .u64 0, .int .u64 0, .int .u64 0, .int .u64 0])).run Try.prog u = .ok z u) := fun u => by rw [← hz]; exact eq4_zero _ _ _ _ u
  have HNS : Hid (noSet s = z) := hz
  obtain ⟨ok, hok⟩ : ∃ ok, okE S ⟨k, f, t, s⟩ = ok := ⟨_, rfl⟩
  have HOK : Hid (okE S ⟨k, f, t, s⟩ = ok) := hok
  rw [hok]
  clear hok
  unfold Eg.val
  simp only
  go_enter Try.func33, Try.ntmps33
  go_upto_region 2 with fail
  rw [HW0.out, HW1.out, ← HZZ.out, ← HAA.out]
  clear HW0 HW1 hz
  have heq := HEQ.out
  by_cases h2 : k = 2
  · subst h2
    by_cases hf0 : 0 ≤ f
    case neg =>
      have HX : Hid (ok = false) := by show _ = _; rw [← HOK.out]; unfold okE; simp; omega
      have g0 : ¬ (0 : Int) ≤ f := hf0
      go_wp2
      go_ret
      exact ⟨by rw [HX.out]; rfl, HB.out⟩
    by_cases hf1 : f < S
    case neg =>
      have HX : Hid (ok = false) := by show _ = _; rw [← HOK.out]; unfold okE; simp; omega
      go_wp2
      go_ret
      exact ⟨by rw [HX.out]; rfl, HB.out⟩
    by_cases ht0 : 0 ≤ t
    case neg =>
      have HX : Hid (ok = false) := by show _ = _; rw [← HOK.out]; unfold okE; simp; omega
      go_wp2
      go_ret
      exact ⟨by rw [HX.out]; rfl, HB.out⟩
    by_cases ht1 : t < S
    case neg =>
      have HX : Hid (ok = false) := by show _ = _; rw [← HOK.out]; unfold okE; simp; omega
      go_wp2
      go_ret
      exact ⟨by rw [HX.out]; rfl, HB.out⟩
    have HX : Hid (ok = true) := by show _ = _; rw [← HOK.out]; unfold okE; simp; omega
    go_wp2
    go_ret
    exact ⟨by rw [HX.out]; rfl, HB.out⟩
  have g2 : (k == 2) = false := by simp [h2]
  by_cases hk : k = 1 ∨ k = 3 ∨ k = 4
  case neg =>
    have g1 : (k == 1) = false := by simp; omega
    have g3 : (k == 3) = false := by simp; omega
    have g4 : (k == 4) = false := by simp; omega
    have HX : Hid (ok = false) := by show _ = _; rw [← HOK.out]; unfold okE; simp; omega
    go_wp2
    go_ret
    exact ⟨by rw [HX.out]; rfl, HB.out⟩
  cases z with
  | false =>
    have HX : Hid (ok = false) := by show _ = _; rw [← HOK.out]; unfold okE; simp [HNS.out]; omega
    rcases hk with rfl | rfl | rfl
    all_goals
      go_wp2
      go_ret
      exact ⟨by rw [HX.out]; rfl, HB.out⟩
  | true =>
    rcases hk with rfl | rfl | rfl
    all_goals
      by_cases hf0 : 0 ≤ f
      case neg =>
        have HX : Hid (ok = false) := by show _ = _; rw [← HOK.out]; unfold okE; simp; omega
        have g0 : ¬ (0 : Int) ≤ f := hf0
        go_wp2
        go_ret
        exact ⟨by rw [HX.out]; rfl, HB.out⟩
      by_cases hf1 : f < S
      case neg =>
        have HX : Hid (ok = false) := by show _ = _; rw [← HOK.out]; unfold okE; simp; omega
        go_wp2
        go_ret
        exact ⟨by rw [HX.out]; rfl, HB.out⟩
      by_cases ht0 : 0 ≤ t
      case neg =>
        have HX : Hid (ok = false) := by show _ = _; rw [← HOK.out]; unfold okE; simp; omega
        go_wp2
        go_ret
        exact ⟨by rw [HX.out]; rfl, HB.out⟩
      by_cases ht1 : t < S
      case neg =>
        have HX : Hid (ok = false) := by show _ = _; rw [← HOK.out]; unfold okE; simp; omega
        go_wp2
        go_ret
        exact ⟨by rw [HX.out]; rfl, HB.out⟩
      have HX : Hid (ok = true) := by show _ = _; rw [← HOK.out]; unfold okE; simp [HNS.out]; omega
      go_wp2
      go_ret
      exact ⟨by rw [HX.out]; rfl, HB.out⟩
set_option maxRecDepth 4000 in
set_option maxHeartbeats 4000000 in
theorem right1_any (S : Int) (A : Nat) (e : Eg) (w : World) (hA : w.cell? ⟨A, 0, none⟩ = some (.int .i64 S)) : Calls Try.prog 32 #[e.val, .pointer (some ⟨A, 0, none⟩)] w fun r w' => r = .returned (.bool (!okE S e)) ∧ Below w.heap.size w w' := by
  have kk : Below w.heap.size w (w.alloc (.cells #[.int .i64 e.k, .int .i64 e.f, .int .i64 e.t, .int .u64 (Oct.word e.s 0 : Nat), .int .u64 (Oct.word e.s 1 : Nat), .int .u64 (Oct.word e.s 2 : Nat), .int .u64 (Oct.word e.s 3 : Nat)] 57)) := (Below.refl _ _).alloc (Nat.le_refl _) _
  have HB : Hid (Below w.heap.size w (w.alloc (.cells #[.int .i64 e.k, .int .i64 e.f, .int .i64 e.t, .int .u64 (Oct.word e.s 0 : Nat), .int .u64 (Oct.word e.s 1 : Nat), .int .u64 (Oct.word e.s 2 : Nat), .int .u64 (Oct.word e.s 3 : Nat)] 57))) := kk
  have HN : Hid ((w.alloc (.cells #[.int .i64 e.k, .int .i64 e.f, .int .i64 e.t, .int .u64 (Oct.word e.s 0 : Nat), .int .u64 (Oct.word e.s 1 : Nat), .int .u64 (Oct.word e.s 2 : Nat), .int .u64 (Oct.word e.s 3 : Nat)] 57)).heap[w.heap.size]? = some (.cells #[.int .i64 e.k, .int .i64 e.f, .int .i64 e.t, .int .u64 (Oct.word e.s 0 : Nat), .int .u64 (Oct.word e.s 1 : Nat), .int .u64 (Oct.word e.s 2 : Nat), .int .u64 (Oct.word e.s 3 : Nat)] 57 (0, 0))) := heap_alloc_new w _
  have a0 : (w.alloc (.cells #[.int .i64 e.k, .int .i64 e.f, .int .i64 e.t, .int .u64 (Oct.word e.s 0 : Nat), .int .u64 (Oct.word e.s 1 : Nat), .int .u64 (Oct.word e.s 2 : Nat), .int .u64 (Oct.word e.s 3 : Nat)] 57)).cell? ⟨A, 0, none⟩ = some (.int .i64 S) := (World.cell?_of_block (w := w) (kk.block A (lt_of_cell hA))).trans hA
  obtain ⟨w1, hw1⟩ : ∃ w1, w.alloc (.cells #[.int .i64 e.k, .int .i64 e.f, .int .i64 e.t, .int .u64 (Oct.word e.s 0 : Nat), .int .u64 (Oct.word e.s 1 : Nat), .int .u64 (Oct.word e.s 2 : Nat), .int .u64 (Oct.word e.s 3 : Nat)] 57) = w1 := ⟨_, rfl⟩
  rw [hw1] at HB HN a0
  obtain ⟨E, hE⟩ : ∃ E, w.heap.size = E := ⟨_, rfl⟩
  rw [hE] at HN
  have HW1 : Hid (w.alloc (.cells #[.int .i64 e.k, .int .i64 e.f, .int .i64 e.t, .int .u64 (Oct.word e.s 0 : Nat), .int .u64 (Oct.word e.s 1 : Nat), .int .u64 (Oct.word e.s 2 : Nat), .int .u64 (Oct.word e.s 3 : Nat)] 57) = w1) := hw1
  have HEE : Hid (w.heap.size = E) := hE
  have HC : Hid (Calls Try.prog 33 #[e.val, .int .i64 S] w1 _) := fits_any S e w1
  clear hw1 hE kk hA
  obtain ⟨ok, hok⟩ : ∃ ok, okE S e = ok := ⟨_, rfl⟩
  rw [hok] at HC ⊢
  clear hok
  obtain ⟨k, f, t, s⟩ := e
  simp only at HN HW1
  have b0 : w1.cell? ⟨E, 0, none⟩ = some (.int .i64 k) := by simp [World.cell?, HN.out]
  have b1 : w1.cell? ⟨E, 1, none⟩ = some (.int .i64 f) := by simp [World.cell?, HN.out]
  have b2 : w1.cell? ⟨E, 2, none⟩ = some (.int .i64 t) := by simp [World.cell?, HN.out]
  have b3 : w1.cell? ⟨E, 3, none⟩ = some (.int .u64 (Oct.word s 0 : Nat)) := by simp [World.cell?, HN.out]
  have b4 : w1.cell? ⟨E, 4, none⟩ = some (.int .u64 (Oct.word s 1 : Nat)) := by simp [World.cell?, HN.out]
  have b5 : w1.cell? ⟨E, 5, none⟩ = some (.int .u64 (Oct.word s 2 : Nat)) := by simp [World.cell?, HN.out]
  have b6 : w1.cell? ⟨E, 6, none⟩ = some (.int .u64 (Oct.word s 3 : Nat)) := by simp [World.cell?, HN.out]
  unfold Eg.val at HC
  unfold Eg.val
  simp only at HC ⊢
  go_enter Try.func32, Try.ntmps32
  go_upto_region 1 with fail
  rw [HW1.out, HEE.out]
  clear HW1
  go_wp2_with fail
  refine HC.out.mono ?_
  rintro r w2 ⟨rfl, k2⟩
  have HB2 : Hid (Below w.heap.size w w2) := below_step HB.out k2
  clear k2 HC
  go_wp2
  go_ret
  exact ⟨rfl, HB2.out⟩
set_option maxRecDepth 4000 in
set_option maxHeartbeats 8000000 in
theorem indexE_any {X : Nat → Prop} (S : Int) (A : Nat) (es : List Eg) (a : Option Addr) (n c : Nat) (w : World) (hn : es.length = n) (hm : n ≤ 10000000) (hE : EAt X w a es) (hA : w.cell? ⟨A, 0, none⟩ = some (.int .i64 S)) : Calls Try.prog 54 #[.slice a n c, .func (.func 32) #[] #[.pointer (some ⟨A, 0, none⟩)]] w fun r w' => ∃ i : Int, r = .returned (.int .i64 i) ∧ decide (0 ≤ i) = (!es.all (okE S)) ∧ Below w.heap.size w w' := by
  have HE : Hid (EAt X w a es) := hE
  have HN : Hid (es.length = n) := hn
  have HA : Hid (w.cell? ⟨A, 0, none⟩ = some (.int .i64 S)) := hA
  clear hE hn hA
  go_enter Try.func54, Try.ntmps54
  go_wp2_with fail
  go_loopw [8] (fun i u => ∃ j : Nat, i = .int .i64 (j : Nat) ∧ j ≤ n ∧ Hid ((es.take j).all (okE S) = true) ∧ Hid (Below w.heap.size w u)) (fun i _ => n - (intOf i).toNat)
  case atStart => exact ⟨0, rfl, Nat.zero_le _, by show _ = _; simp, Below.refl _ _⟩
  case round =>
    obtain ⟨j, rfl, hjn, HAL, HB⟩ := hrel
    by_cases hlt : j < n
    · have hlt' : (j : Int) < (n : Int) := by omega
      obtain ⟨e, he⟩ : ∃ e, es[j]? = some e := ⟨_, List.getElem?_eq_getElem (by rw [HN.out]; exact hlt)⟩
      have hrow := (HE.out.keep (w' := wr) (Y := X) (fun _ h _ => h) (fun b _ hlt => HB.out.block b hlt)).nth he
      obtain ⟨g, off, rfl, e0, e1, e2, e3, e4, e5, e6⟩ := hrow
      have HC : Hid (Calls Try.prog 32 #[e.val, .pointer (some ⟨A, 0, none⟩)] wr _) := right1_any S A e wr ((World.cell?_of_block (w := w) (HB.out.block A (lt_of_cell HA.out))).trans HA.out)
      have HTA : Hid ((es.take (j + 1)).all (okE S) = okE S e) := by
        show _ = _
        rw [List.take_add_one, he, List.all_append, HAL.out]
        simp
      have HNO : Hid (okE S e = false → es.all (okE S) = false) := fun h => by
        rw [List.all_eq_false]
        exact ⟨e, List.mem_of_getElem? he, by simp [h]⟩
      obtain ⟨ok, hok⟩ : ∃ ok, okE S e = ok := ⟨_, rfl⟩
      rw [hok] at HC HTA HNO
      clear hok he
      unfold Eg.val at HC
      go_wp2_with fail
      refine HC.out.mono ?_
      rintro r w2 ⟨rfl, k2⟩
      have HB2 : Hid (Below w.heap.size w w2) := below_step HB.out k2
      clear k2 HC HB e0 e1 e2 e3 e4 e5 e6
      cases ok with
      | true =>
        go_wp2
        go_roundw
        case rel => exact ⟨j + 1, by go_num, by omega, HTA, HB2⟩
        case measure => simp [intOf]; omega
      | false =>
        have HF := HNO.out rfl
        go_wp2
        go_ret
        exact ⟨(j : Int), rfl, by rw [HF]; simp, HB2.out⟩
    · have hlt' : ¬ (j : Int) < (n : Int) := by omega
      have HF : Hid (es.all (okE S) = true) := by
        show _ = _
        rw [← HAL.out, List.take_of_length_le (by rw [HN.out]; omega)]
      go_wp2
      go_ret
      exact ⟨-1, rfl, by rw [HF.out]; decide, HB.out⟩
set_option maxRecDepth 4000 in
theorem containsE_any {X : Nat → Prop} (S : Int) (A : Nat) (es : List Eg) (a : Option Addr) (n c : Nat) (w : World) (hn : es.length = n) (hm : n ≤ 10000000) (hE : EAt X w a es) (hA : w.cell? ⟨A, 0, none⟩ = some (.int .i64 S)) : Calls Try.prog 31 #[.slice a n c, .func (.func 32) #[] #[.pointer (some ⟨A, 0, none⟩)]] w fun r w' => r = .returned (.bool (!es.all (okE S))) ∧ Below w.heap.size w w' := by
  have HC : Hid (Calls Try.prog 54 #[.slice a n c, .func (.func 32) #[] #[.pointer (some ⟨A, 0, none⟩)]] w _) := indexE_any S A es a n c w hn hm hE hA
  clear hn hm hE hA
  go_enter Try.func31, Try.ntmps31
  go_wp2_with fail
  refine HC.out.mono ?_
  rintro r w2 ⟨i, rfl, hi, k2⟩
  have HI : Hid (decide (0 ≤ i) = (!es.all (okE S))) := hi
  have HB : Hid (Below w.heap.size w w2) := k2
  clear hi k2 HC
  by_cases h0 : 0 ≤ i
  · have h1 : decide (0 ≤ i) = true := by simp [h0]
    go_wp2
    go_ret
    exact ⟨by rw [← HI.out, h1]; rfl, HB.out⟩
  · have h1 : decide (0 ≤ i) = false := by simp [h0]
    go_wp2
    go_ret
    exact ⟨by rw [← HI.out, h1]; rfl, HB.out⟩
set_option maxRecDepth 4000 in
set_option maxHeartbeats 4000000 in
theorem pright_any (M : Ma) (x : Nf) (w : World) (hx : MaAt (fun _ => True) w M x) (he : M.es.length ≤ 10000000) (hr : M.rs.length ≤ 10000000) : Calls Try.prog 12 #[x.val] w fun e w' => e = .returned (.bool (rightOf M)) ∧ Below w.heap.size w w' := by
  have kk : Below w.heap.size w (w.alloc (.cells #[.int .i64 x.S, .slice x.ea x.en x.ec, .slice x.ra x.rn x.rc] 38)) := (Below.refl _ _).alloc (Nat.le_refl _) _
  have HNX : Hid (NFB (w.alloc (.cells #[.int .i64 x.S, .slice x.ea x.en x.ec, .slice x.ra x.rn x.rc] 38)) w.heap.size x) := nfb_new w x
  have HB : Hid (Below w.heap.size w (w.alloc (.cells #[.int .i64 x.S, .slice x.ea x.en x.ec, .slice x.ra x.rn x.rc] 38))) := kk
  have HMX : Hid (MaAt (fun _ => True) (w.alloc (.cells #[.int .i64 x.S, .slice x.ea x.en x.ec, .slice x.ra x.rn x.rc] 38)) M x) := hx.later kk
  obtain ⟨w2, hw2⟩ : ∃ w2, w.alloc (.cells #[.int .i64 x.S, .slice x.ea x.en x.ec, .slice x.ra x.rn x.rc] 38) = w2 := ⟨_, rfl⟩
  rw [hw2] at HNX HB HMX
  obtain ⟨A, hA⟩ : ∃ A, w.heap.size = A := ⟨_, rfl⟩
  rw [hA] at HNX
  have HW2 : Hid (w.alloc (.cells #[.int .i64 x.S, .slice x.ea x.en x.ec, .slice x.ra x.rn x.rc] 38) = w2) := hw2
  have HAA : Hid (w.heap.size = A) := hA
  clear hw2 hA kk hx
  obtain ⟨xS, xa, xn, xc, xra, xrn, xrc⟩ := x
  have e1 : xS = M.S := HMX.out.s
  have e3 : xn = M.es.length := HMX.out.n
  have e5 : xrn = M.rs.length := HMX.out.r
  subst e1 e3 e5
  obtain ⟨n, hn⟩ : ∃ n, M.es.length = n := ⟨_, rfl⟩
  obtain ⟨rn, hrn⟩ : ∃ rn, M.rs.length = rn := ⟨_, rfl⟩
  obtain ⟨S, hS⟩ : ∃ S, M.S = S := ⟨_, rfl⟩
  have HE : Hid (EAt (fun _ => True) w2 xa M.es) := HMX.out.e
  have HRO : Hid (rightOf M = (decide (1 ≤ S) && decide ((rn : Int) = S) && M.es.all (okE S))) := by show _ = _; unfold rightOf; rw [hS, hrn]
  clear HMX
  rw [hn] at HNX HW2 he
  rw [hrn] at HNX HW2 hr
  rw [hS] at HNX HW2
  obtain ⟨x0, x1, x2⟩ := HNX.out.cells
  simp only at x0 x1 x2
  have HC : Hid (Calls Try.prog 31 #[.slice xa n xc, .func (.func 32) #[] #[.pointer (some ⟨A, 0, none⟩)]] w2 _) := containsE_any S A M.es xa n xc w2 hn he HE.out x0
  unfold Nf.val
  simp only at HW2 ⊢
  rw [hn, hrn, hS]
  clear hn hrn hS
  go_enter Try.func12, Try.ntmps12
  go_upto_region 1 with fail
  rw [HW2.out, HAA.out]
  clear HW2
  have hmf : ∀ (fn : Fn) (first cap : Array Value) (w : World), (Instr.makeFunc fn first cap).run Try.prog w = .ok (.func fn first cap) w := fun _ _ _ _ => rfl
  by_cases hS1 : S < 1
  · have HNo : Hid (rightOf M = false) := by show _ = _; rw [HRO.out, show decide (1 ≤ S) = false by simp; omega]; rfl
    go_wp2
    go_ret
    exact ⟨by rw [HNo.out]; rfl, HB.out⟩
  by_cases hSr : (rn : Int) = S
  · have hSr2 : ((rn : Int) != S) = false := by simp [hSr]
    have hSr3 : ((rn : Int) == S) = true := by simp [hSr]
    have HYes : Hid (rightOf M = M.es.all (okE S)) := by show _ = _; rw [HRO.out, show decide (1 ≤ S) = true by simp; omega, show decide ((rn : Int) = S) = true by simp [hSr]]; simp
    have HSR : Hid ((rn : Int) = S) := hSr
    clear hSr
    obtain ⟨v, hv⟩ : ∃ v, M.es.all (okE S) = v := ⟨_, rfl⟩
    rw [hv] at HC HYes
    clear hv
    go_wp2_with fail
    refine HC.out.mono ?_
    rintro r w3 ⟨rfl, k3⟩
    have HB3 : Hid (Below w.heap.size w w3) := below_step HB.out k3
    clear k3 HC
    go_wp2
    go_ret
    exact ⟨by rw [HYes.out]; simp, HB3.out⟩
  · have HNo : Hid (rightOf M = false) := by show _ = _; rw [HRO.out, show decide ((rn : Int) = S) = false by simp [hSr]]; simp
    have hSr2 : ((rn : Int) != S) = true := by simp [hSr]
    have hSr3 : ((rn : Int) == S) = false := by simp [hSr]
    go_wp2
    go_ret
    exact ⟨by rw [HNo.out]; rfl, HB.out⟩
theorem right_ok : RightOK := fun M x w h h1 h2 => pright_any M x w h h1 h2
end Go.Proofs.Ytjmbimgofceanaa

