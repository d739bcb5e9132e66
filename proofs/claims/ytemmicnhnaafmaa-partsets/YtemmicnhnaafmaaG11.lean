/- PartTells. -/
import Derived.Test.YtemmicnhnaafmaaG10
namespace Go.Proofs.Ytemmicnhnaafmaa
open Go.RowKit

/-- the state of the law: the classes in their block, the sets -/
structure Tl (ss : List Oct.S) (w u : World) (a : Option Addr) (A : Nat) : Prop where
  arr : AB u A (clsV ss)
  sets : SetsAt u a ss
  low : Below w.heap.size w u
theorem Tl.later {ss : List Oct.S} {w u u' : World} {a : Option Addr} {A : Nat} (h : Tl ss w u a A) (hb : Below u.heap.size u u') : Tl ss w u' a A := ⟨h.arr.later hb, setsAt_later hb h.sets, below_trans h.low hb h.low.size⟩
theorem OwnsS.at2 {w : World} {B : Nat} {v : Value} {l : List Oct.S} (h : OwnsS w B v l) : ∃ a c, v = .slice a l.length c ∧ SetsAt w a l ∧ l.length ≤ c := by
  by_cases e : l = []
  · subst e
    exact ⟨none, 0, h.2.1 rfl, .inl rfl, Nat.le_refl _⟩
  · obtain ⟨g, c, rfl, _, _, hc⟩ := h.form e
    have := h.at (m := l.length) rfl
    rw [List.take_of_length_le (Nat.le_refl _)] at this
    exact ⟨_, c, rfl, this, hc⟩
set_option maxRecDepth 20000 in
set_option maxHeartbeats 8000000 in
theorem tells_any (a : Option Addr) (n cap : Nat) (ss0 : List Oct.S) (w : World) (hn0 : n = ss0.length) (hc : n ≤ cap) (hat0 : SetsAt w a ss0) :
    Calls Try.prog 4 #[.slice a n cap] w fun e w' => e = .returned (.bool true) ∧ Below w.heap.size w w' := by
  have ha : n = 0 ∨ ∃ b off, a = some ⟨b, off, none⟩ := by
    rcases hat0 with h | ⟨b, off, h, _⟩
    · left; rw [hn0, h]; rfl
    · exact .inr ⟨b, off, h⟩
  have HSM : Hid (Calls Try.prog 12 #[.slice a n cap, .int .i64 30] w fun e w' => e = .returned (.slice a (min n 30) cap) ∧ w' = w) := small_any a n cap 30 w hc (by decide) ha
  obtain ⟨m, hm⟩ : ∃ m, m = min n 30 := ⟨_, rfl⟩
  rw [← hm] at HSM
  obtain ⟨ss, hss⟩ : ∃ ss, ss = ss0.take 30 := ⟨_, rfl⟩
  have HN : Hid (m = ss.length) := by show _ = _; rw [hss, List.length_take, hm, hn0]; omega
  have HAT : Hid (SetsAt w a ss) := by rw [hss]; exact setsAt_take hat0 30
  have hm30 : m ≤ 30 := by omega
  have hmc : m ≤ cap := by omega
  clear hm hss hn0 hat0 hc ha
  have hz := zeroArr
  go_enter Try.func4, Try.ntmps4
  go_wp2_with fail
  refine HSM.out.mono ?_
  rintro e w1 ⟨rfl, hw1⟩
  subst hw1
  clear HSM
  go_wp2_with fail
  refine (known_any w1).mono ?_
  rintro e w2 ⟨rfl, hb2⟩
  have HB2 : Hid (Below w1.heap.size w1 w2) := hb2
  clear hb2
  go_wp2_with fail
  refine (classes_any a m cap ss w2 HN.out (by omega) hmc (setsAt_later HB2.out HAT.out)).mono ?_
  rintro e w3 ⟨rfl, hb3⟩
  have HB3 : Hid (Below w1.heap.size w1 w3) := below_trans HB2.out hb3 HB2.out.size
  clear hb3 HB2
  obtain ⟨N, hN⟩ : ∃ N, N = Pt.cnt (Pt.sameB ss) 256 := ⟨_, rfl⟩
  rw [← hN]
  have HNN : Hid (N = Pt.cnt (Pt.sameB ss) 256) := hN
  have hN256 : N ≤ 256 := by rw [hN]; exact Pt.cnt_le 256
  clear hN
  have HA1 : Hid (AB (w3.alloc (.cells (cv fun _ => 0) 38)) w3.heap.size (fun _ => 0)) := ab_new w3 (fun _ => 0)
  have HE := World.setRow_alloc_new w3 (cv fun _ => 0) (cv (clsV ss)) 38
  have HEE : Hid ((w3.alloc (.cells (cv fun _ => 0) 38)).setRow w3.heap.size (cv (clsV ss)) = w3.alloc (.cells (cv (clsV ss)) 38)) := HE
  have HT4 : Hid (Tl ss w1 (w3.alloc (.cells (cv (clsV ss)) 38)) a w3.heap.size) := ⟨ab_new w3 (clsV ss), setsAt_later (HB3.out.alloc HB3.out.size _) HAT.out, HB3.out.alloc HB3.out.size _⟩
  clear HE HB3 HAT
  go_upto_region 5 with (refine wpList_store_arr rfl (.tmp 3) (.tmp 24) rfl HA1.out rfl rfl ?_; rw [HEE.out])
  obtain ⟨w4, hw4⟩ : ∃ w4, w3.alloc (.cells (cv (clsV ss)) 38) = w4 := ⟨_, rfl⟩
  obtain ⟨A, hA⟩ : ∃ A, w3.heap.size = A := ⟨_, rfl⟩
  rw [hw4, hA] at HT4
  rw [hw4, hA]
  clear hw4 hA HA1 HEE hz
  go_wp2_with fail
  go_loop [5, 6] (fun x i => ∃ (k : Nat) (z : Int), k ≤ 256 ∧ i = .int .i64 (k : Nat) ∧ x = .int .i64 z ∧ Hid (z = (Pt.cnt (Pt.sameB ss) k : Nat) - 1) ∧ -1 ≤ z ∧ z ≤ 256) (fun _ i => 256 - (intOf i).toNat)
  case atStart => exact ⟨0, -1, by omega, rfl, rfl, (by show _ = _; rfl), by omega, by omega⟩
  case round =>
    obtain ⟨k, z, hk, rfl, rfl, HZ, hz1, hz2⟩ := hrel
    by_cases hlt : k < 256
    · have hlt' : (k : Int) < 256 := by omega
      obtain ⟨ca, fa⟩ := HT4.out.arr.cell hlt
      have hy1 := Pt.cls_le (Pt.sameB_eqv ss) k
      have hy2 := Pt.cls_lt (Pt.sameB_eqv ss) hlt
      have HY2 : Hid (Pt.cls (Pt.sameB ss) k < N) := by show _ < _; rw [HNN.out]; exact hy2
      have HC : Hid (Pt.cnt (Pt.sameB ss) (k + 1) = Pt.cnt (Pt.sameB ss) k + (if Pt.isNew (Pt.sameB ss) k then 1 else 0)) := rfl
      have HNI := Pt.new_iff (Pt.sameB_eqv ss) k
      have HNW : Hid (Pt.isNew (Pt.sameB ss) k = true ↔ Pt.cls (Pt.sameB ss) k = Pt.cnt (Pt.sameB ss) k) := HNI
      clear hy2 HNI
      unfold clsV at ca
      obtain ⟨y, hy⟩ : ∃ y, y = Pt.cls (Pt.sameB ss) k := ⟨_, rfl⟩
      rw [← hy] at ca hy1 HY2 HNW
      obtain ⟨q, hq⟩ : ∃ q, q = Pt.cnt (Pt.sameB ss) k := ⟨_, rfl⟩
      rw [← hq] at hy1 HC HZ HNW
      have hyN := HY2.out
      have hzq := HZ.out
      have t1 : ¬ (y : Int) < 0 := by omega
      have t2 : ¬ z + 1 < (y : Int) := by omega
      have tw : IntKind.i64.wrap (z + 1) = z + 1 := by rw [IntKind.wrap_i64]; omega
      by_cases hnew : Pt.isNew (Pt.sameB ss) k = true
      · have t3 : z < (y : Int) := by have := HNW.out.1 hnew; omega
        have HZ2 : Hid ((y : Int) = (Pt.cnt (Pt.sameB ss) (k + 1) : Nat) - 1) := by
          show _ = _
          rw [HC.out, if_pos hnew]
          have := HNW.out.1 hnew
          omega
        clear hnew hq hy
        go_wp2
        go_round
        case rel => exact ⟨k + 1, y, by omega, by go_num, rfl, HZ2, by omega, by omega⟩
        case measure => simp [intOf]; omega
      · have t3 : ¬ z < (y : Int) := by
          intro h
          apply hnew
          rw [HNW.out]
          omega
        have HZ2 : Hid (z = (Pt.cnt (Pt.sameB ss) (k + 1) : Nat) - 1) := by
          show _ = _
          rw [HC.out, if_neg hnew, hzq]
          rfl
        clear hnew hq hy
        go_wp2
        go_round
        case rel => exact ⟨k + 1, z, by omega, by go_num, rfl, HZ2, by omega, by omega⟩
        case measure => simp [intOf]; omega
    · have hge : ¬ (k : Int) < 256 := by omega
      obtain rfl : k = 256 := by omega
      have hz3 : z = (N : Int) - 1 := by rw [HNN.out]; exact HZ.out
      subst hz3
      clear HZ hz1 hz2
      have tw : IntKind.i64.wrap ((N : Int) - 1 + 1) = (N : Int) := by rw [IntKind.wrap_i64]; omega
      go_wp2_with fail
      clear tw
      go_loopw [7] (fun i u => ∃ k : Nat, k ≤ 256 ∧ i = .int .i64 (k : Nat) ∧ Hid (Tl ss w1 u a A)) (fun i _ => 256 - (intOf i).toNat)
      case atStart => exact ⟨0, by omega, rfl, HT4⟩
      case round =>
        clear HT4
        obtain ⟨k, hk, rfl, HT5⟩ := hrel
        by_cases hlt : k < 256
        · have hlt' : (k : Int) < 256 := by omega
          go_wp2_with fail
          go_loopw [8] (fun i u => ∃ j : Nat, j ≤ k ∧ i = .int .i64 (j : Nat) ∧ Hid (Tl ss w1 u a A)) (fun i _ => k - (intOf i).toNat)
          case atStart => exact ⟨0, by omega, rfl, HT5⟩
          case round =>
            clear HT5
            obtain ⟨j, hj, rfl, HT6⟩ := hrel
            by_cases hjk : j < k
            · have hjk' : (j : Int) < (k : Int) := by omega
              have hj256 : j < 256 := by omega
              go_wp2_with fail
              go_loopw [9, 65] (fun b i u => ∃ p : Nat, p ≤ m ∧ i = .int .i64 (p : Nat) ∧ b = .bool true ∧ Hid (Pt.sameB (ss.take p) k j = true) ∧ Hid (Tl ss w1 u a A)) (fun _ i _ => m - (intOf i).toNat)
              case atStart => exact ⟨0, Nat.zero_le _, rfl, rfl, (by show _ = _; rfl), HT6⟩
              case round =>
                clear HT6
                obtain ⟨p, hp, rfl, rfl, HSB, HT7⟩ := hrel
                obtain ⟨x1, hx1⟩ : ∃ x1, x1 = Pt.cls (Pt.sameB ss) k := ⟨_, rfl⟩
                obtain ⟨x2, hx2⟩ : ∃ x2, x2 = Pt.cls (Pt.sameB ss) j := ⟨_, rfl⟩
                have HX : Hid ((x1 = x2) ↔ Pt.sameB ss k j = true) := by show _ ↔ _; rw [hx1, hx2]; exact Pt.cls_iff (Pt.sameB_eqv ss) k j
                have HX1 : Hid (x1 = Pt.cls (Pt.sameB ss) k) := hx1
                have HX2 : Hid (x2 = Pt.cls (Pt.sameB ss) j) := hx2
                clear hx1 hx2
                by_cases hpm : p < m
                · have hpm' : (p : Int) < (m : Int) := by omega
                  obtain ⟨s, hs⟩ : ∃ s, ss[p]? = some s := ⟨_, List.getElem?_eq_getElem (by rw [← HN.out]; exact hpm)⟩
                  obtain ⟨g, off, rfl, c0, c1, c2, c3⟩ := setsAt_cell HT7.out.sets (Below.refl _ _) hs
                  have HTK : Hid (Pt.sameB (ss.take (p + 1)) k j = (s k == s j)) := by
                    show _ = _
                    rw [List.take_add_one, hs, Bool.eq_iff_iff, Pt.sameB_iff]
                    have h0 := Pt.sameB_iff.1 HSB.out
                    constructor
                    · intro h
                      have := h s (by simp)
                      simp [this]
                    · intro h t ht
                      rcases List.mem_append.1 ht with h1 | h1
                      · exact h0 t h1
                      · have : t = s := by simpa using h1
                        subst this
                        simpa using h
                  have HME : Hid (s ∈ ss) := List.mem_of_getElem? hs
                  clear hs
                  have hwk : IntKind.u8.wrap (k : Int) = (k : Int) := by rw [IntKind.wrap_u8]; omega
                  have hwj : IntKind.u8.wrap (j : Int) = (j : Int) := by rw [IntKind.wrap_u8]; omega
                  have hb7 : Below wr.heap.size wr (wr.alloc (.cells #[.int .u64 (Oct.word s 0 : Nat), .int .u64 (Oct.word s 1 : Nat), .int .u64 (Oct.word s 2 : Nat), .int .u64 (Oct.word s 3 : Nat)] 31)) := (Below.refl _ _).alloc (Nat.le_refl _) _
                  have hsb7 := sb_new wr s
                  obtain ⟨w7, hw7⟩ : ∃ w7, wr.alloc (.cells #[.int .u64 (Oct.word s 0 : Nat), .int .u64 (Oct.word s 1 : Nat), .int .u64 (Oct.word s 2 : Nat), .int .u64 (Oct.word s 3 : Nat)] 31) = w7 := ⟨_, rfl⟩
                  obtain ⟨P, hP⟩ : ∃ P, wr.heap.size = P := ⟨_, rfl⟩
                  rw [hw7] at hb7 hsb7
                  rw [hP] at hsb7
                  have HW7 : Hid (wr.alloc (.cells #[.int .u64 (Oct.word s 0 : Nat), .int .u64 (Oct.word s 1 : Nat), .int .u64 (Oct.word s 2 : Nat), .int .u64 (Oct.word s 3 : Nat)] 31) = w7) := hw7
                  have HP7 : Hid (wr.heap.size = P) := hP
                  have HT8 : Hid (Tl ss w1 w7 (some ⟨g, off, none⟩) A) := HT7.out.later hb7
                  have HSB7 : Hid (SB w7 P s) := hsb7
                  clear hw7 hP hb7 hsb7 HT7
                  go_upto_region 25 with fail
                  rw [HW7.out, HP7.out]
                  clear HW7 HP7 c0 c1 c2 c3
                  have d0 : ∀ u : Later w7, u.at_.cell? ⟨P, 0, none⟩ = some (.int .u64 (Oct.word s 0 : Nat)) := fun u => (HSB7.out.later u.below).cells.1
                  have d1 : ∀ u : Later w7, u.at_.cell? ⟨P, 1, none⟩ = some (.int .u64 (Oct.word s 1 : Nat)) := fun u => (HSB7.out.later u.below).cells.2.1
                  have d2 : ∀ u : Later w7, u.at_.cell? ⟨P, 2, none⟩ = some (.int .u64 (Oct.word s 2 : Nat)) := fun u => (HSB7.out.later u.below).cells.2.2.1
                  have d3 : ∀ u : Later w7, u.at_.cell? ⟨P, 3, none⟩ = some (.int .u64 (Oct.word s 3 : Nat)) := fun u => (HSB7.out.later u.below).cells.2.2.2
                  have hne : Nonempty (Later w7) := ⟨⟨w7, Below.refl _ _⟩⟩
                  go_cut [77] from 69 to 77 (fun b wx => b = .bool (s k != s j) ∧ Hid (Below w7.heap.size w7 wx))
                  case first =>
                    refine wp_region_later (by kernel_rfl) (by kernel_rfl) ?_
                    repeat (first
                      | go_big_quiet_step ((go_at_call 14; exact calls_later (has_gen s _ _ (by assumption))))
                      | quiet_step ((go_at_call 14; exact calls_later (has_gen s _ _ (by assumption)))))
                    refine wpQuiet_nil ?_
                    intro _ hw'
                    obtain ⟨u, hw''⟩ := hw'
                    subst hw''
                    go_wp2_with fail
                    go_meet
                    case rel => exact ⟨rfl, u.below⟩
                  case rest =>
                  obtain ⟨rfl, kx⟩ := hcut
                  obtain ⟨d, hd⟩ : ∃ d, d = (s k != s j) := ⟨_, rfl⟩
                  rw [← hd]
                  have HD : Hid (d = (s k != s j)) := hd
                  clear hd
                  have HTX : Hid (Tl ss w1 wc (some ⟨g, off, none⟩) A) := HT8.out.later kx.out
                  clear hne d0 d1 d2 d3 kx HT8 HSB7
                  cases d
                  · have HSB2 : Hid (Pt.sameB (ss.take (p + 1)) k j = true) := by
                      show _ = _
                      rw [HTK.out]
                      have h := HD.out
                      simpa using h.symm
                    clear HD
                    go_wp2
                    go_roundw
                    case rel => exact ⟨p + 1, by omega, by go_num, rfl, HSB2, HTX⟩
                    case measure => simp [intOf]; omega
                  · have HSF : Hid (Pt.sameB ss k j = false) := by
                      show _ = _
                      cases h : Pt.sameB ss k j
                      · rfl
                      · have h1 := Pt.sameB_iff.1 h s HME.out
                        have h2 := HD.out
                        rw [h1] at h2
                        simp at h2
                    clear HD
                    obtain ⟨w8, hw8⟩ : ∃ w8, w8 = wc := ⟨_, rfl⟩
                    rw [← hw8] at HTX ⊢
                    clear hw8
                    have HT8 : Hid (Tl ss w1 w8 (some ⟨g, off, none⟩) A) := HTX
                    clear HTX
                    obtain ⟨e1, e1f⟩ := HT8.out.arr.cell hlt
                    obtain ⟨e2, e2f⟩ := HT8.out.arr.cell hj256
                    have hne : Nonempty (Later w8) := ⟨⟨w8, Below.refl _ _⟩⟩
                    have q1 : ∀ u : Later w8, u.at_.cell? ⟨A, k, none⟩ = some (.int .i64 (x1 : Nat)) := fun u => by rw [HX1.out]; exact ((HT8.out.arr.later u.below).cell hlt).1
                    have q2 : ∀ u : Later w8, u.at_.cell? ⟨A, j, none⟩ = some (.int .i64 (x2 : Nat)) := fun u => by rw [HX2.out]; exact ((HT8.out.arr.later u.below).cell hj256).1
                    clear e1 e2 e1f e2f
                    have hxx : ((x1 : Int) == (x2 : Int)) = false := by
                      have : ¬ x1 = x2 := fun h => by
                        have h2 := HX.out.1 h
                        rw [HSF.out] at h2
                        cases h2
                      simp
                      omega
                    have hxe : ¬ (x1 : Int) = (x2 : Int) := by simpa using hxx
                    go_upto_region 28 with fail
                    go_cut [87] from 79 to 87 (fun b wx => b = .bool false ∧ Hid (Below w8.heap.size w8 wx))
                    case first =>
                      refine wp_region_later (by kernel_rfl) (by kernel_rfl) ?_
                      repeat (first
                        | go_big_quiet_step (fail)
                        | quiet_step (fail))
                      refine wpQuiet_nil ?_
                      intro _ hw'
                      obtain ⟨u, hw''⟩ := hw'
                      subst hw''
                      go_wp2_with fail
                      go_meet
                      case rel => exact ⟨rfl, u.below⟩
                    case rest =>
                    obtain ⟨rfl, kk⟩ := hcut
                    have HT9 : Hid (Tl ss w1 wc (some ⟨g, off, none⟩) A) := HT8.out.later kk.out
                    clear q1 q2 hne kk HT8
                    go_wp2
                    go_roundw
                    case rel => exact ⟨j + 1, by omega, by go_num, HT9⟩
                    case measure => simp [intOf]; omega
                · have hpm' : ¬ (p : Int) < (m : Int) := by omega
                  have HST : Hid (Pt.sameB ss k j = true) := by
                    have h := HSB.out
                    rw [List.take_of_length_le (by rw [← HN.out]; omega)] at h
                    exact h
                  have HT8 : Hid (Tl ss w1 wr a A) := HT7
                  clear HT7
                  obtain ⟨e1, e1f⟩ := HT8.out.arr.cell hlt
                  obtain ⟨e2, e2f⟩ := HT8.out.arr.cell hj256
                  have hne : Nonempty (Later wr) := ⟨⟨wr, Below.refl _ _⟩⟩
                  have q1 : ∀ u : Later wr, u.at_.cell? ⟨A, k, none⟩ = some (.int .i64 (x1 : Nat)) := fun u => by rw [HX1.out]; exact ((HT8.out.arr.later u.below).cell hlt).1
                  have q2 : ∀ u : Later wr, u.at_.cell? ⟨A, j, none⟩ = some (.int .i64 (x2 : Nat)) := fun u => by rw [HX2.out]; exact ((HT8.out.arr.later u.below).cell hj256).1
                  clear e1 e2 e1f e2f
                  obtain rfl : x1 = x2 := HX.out.2 HST.out
                  go_upto_region 28 with fail
                  go_cut [87] from 79 to 87 (fun b wx => b = .bool false ∧ Hid (Below wr.heap.size wr wx))
                  case first =>
                    refine wp_region_later (by kernel_rfl) (by kernel_rfl) ?_
                    repeat (first
                      | go_big_quiet_step (fail)
                      | quiet_step (fail))
                    refine wpQuiet_nil ?_
                    intro _ hw'
                    obtain ⟨u, hw''⟩ := hw'
                    subst hw''
                    go_wp2_with fail
                    go_meet
                    case rel => exact ⟨rfl, u.below⟩
                  case rest =>
                  obtain ⟨rfl, kk⟩ := hcut
                  have HT9 : Hid (Tl ss w1 wc a A) := HT8.out.later kk.out
                  clear q1 q2 hne kk HT8
                  go_wp2
                  go_roundw
                  case rel => exact ⟨j + 1, by omega, by go_num, HT9⟩
                  case measure => simp [intOf]; omega
            · have hjk' : ¬ (j : Int) < (k : Int) := by omega
              go_wp2_with fail
              go_roundw
              case rel => exact ⟨k + 1, by omega, by go_num, HT6⟩
              case measure => simp [intOf]; omega
        · have hge : ¬ (k : Int) < 256 := by omega
          go_wp2_with fail
          go_loopw [90] (fun i u => ∃ p : Nat, p ≤ m ∧ i = .int .i64 (p : Nat) ∧ Hid (Tl ss w1 u a A)) (fun i _ => m - (intOf i).toNat)
          case atStart => exact ⟨0, Nat.zero_le _, rfl, HT5⟩
          case round =>
            clear HT5
            obtain ⟨p, hp, rfl, HT7⟩ := hrel
            by_cases hpm : p < m
            · have hpm' : (p : Int) < (m : Int) := by omega
              obtain ⟨s, hs⟩ : ∃ s, ss[p]? = some s := ⟨_, List.getElem?_eq_getElem (by rw [← HN.out]; exact hpm)⟩
              obtain ⟨g, off, rfl, c0, c1, c2, c3⟩ := setsAt_cell HT7.out.sets (Below.refl _ _) hs
              have HME : Hid (s ∈ ss) := List.mem_of_getElem? hs
              clear hs
              have hb7 : Below wr.heap.size wr (wr.alloc (.cells #[.int .u64 (Oct.word s 0 : Nat), .int .u64 (Oct.word s 1 : Nat), .int .u64 (Oct.word s 2 : Nat), .int .u64 (Oct.word s 3 : Nat)] 31)) := (Below.refl _ _).alloc (Nat.le_refl _) _
              have hsb7 := sb_new wr s
              obtain ⟨w7, hw7⟩ : ∃ w7, wr.alloc (.cells #[.int .u64 (Oct.word s 0 : Nat), .int .u64 (Oct.word s 1 : Nat), .int .u64 (Oct.word s 2 : Nat), .int .u64 (Oct.word s 3 : Nat)] 31) = w7 := ⟨_, rfl⟩
              obtain ⟨P, hP⟩ : ∃ P, wr.heap.size = P := ⟨_, rfl⟩
              rw [hw7] at hb7 hsb7
              rw [hP] at hsb7
              have HW7 : Hid (wr.alloc (.cells #[.int .u64 (Oct.word s 0 : Nat), .int .u64 (Oct.word s 1 : Nat), .int .u64 (Oct.word s 2 : Nat), .int .u64 (Oct.word s 3 : Nat)] 31) = w7) := hw7
              have HP7 : Hid (wr.heap.size = P) := hP
              have HT8 : Hid (Tl ss w1 w7 (some ⟨g, off, none⟩) A) := HT7.out.later hb7
              have HSB7 : Hid (SB w7 P s) := hsb7
              clear hw7 hP hb7 hsb7 HT7
              go_upto_region 33 with fail
              rw [HW7.out, HP7.out]
              clear HW7 HP7 c0 c1 c2 c3
              go_wp2_with fail
              go_loopw [14, 15] (fun v i u => ∃ (c : Nat) (vv : Value), vv = v ∧ c ≤ N ∧ i = .int .i64 (c : Nat) ∧ Hid (OwnsS u w7.heap.size vv (Lc ss s c)) ∧ Hid (Below w7.heap.size w7 u)) (fun _ i _ => N - (intOf i).toNat)
              case atStart => exact ⟨0, _, rfl, Nat.zero_le _, rfl, ownsS_nil _ _, Below.refl _ _⟩
              case round =>
                obtain ⟨c, vv, rfl, hcN, rfl, HO, HB⟩ := hrel
                have HT9 : Hid (Tl ss w1 wr (some ⟨g, off, none⟩) A) := HT8.out.later HB.out
                have HSB9 : Hid (SB wr P s) := HSB7.out.later HB.out
                by_cases hc : c < N
                · have hc' : (c : Int) < (N : Int) := by omega
                  have HAR : Hid (AB wr A (clsV ss)) := HT9.out.arr
                  go_wp2_with (refine wpList_load_arr rfl (.tmp 3) rfl HAR.out rfl ?_)
                  refine (members_any (clsV ss) (c : Nat) wr).mono ?_
                  rintro e w9 ⟨rfl, hb9⟩
                  have HLS := Lc_succ ss s c
                  have HLL := Lc_len ss s c
                  obtain ⟨mm, hmm⟩ : ∃ mm, mm = Pt.memb (clsV ss) (c : Nat) := ⟨_, rfl⟩
                  rw [← hmm] at HLS ⊢
                  have HLX : Hid (Lc ss s (c + 1) = Lc ss s c ++ (if noSet (Oct.meet mm s) = true then [] else [mm])) := HLS
                  have HLN : Hid ((Lc ss s c).length ≤ 256) := by show _ ≤ _; omega
                  clear hmm HLS HLL HAR
                  have kb : Below w7.heap.size w7 (w9.alloc (.cells #[.int .u64 (Oct.word mm 0 : Nat), .int .u64 (Oct.word mm 1 : Nat), .int .u64 (Oct.word mm 2 : Nat), .int .u64 (Oct.word mm 3 : Nat)] 31)) := (below_trans HB.out hb9 HB.out.size).alloc (Nat.le_trans HB.out.size hb9.size) _
                  have kw : Below wr.heap.size wr (w9.alloc (.cells #[.int .u64 (Oct.word mm 0 : Nat), .int .u64 (Oct.word mm 1 : Nat), .int .u64 (Oct.word mm 2 : Nat), .int .u64 (Oct.word mm 3 : Nat)] 31)) := hb9.alloc hb9.size _
                  have HO10 : Hid (OwnsS (w9.alloc (.cells #[.int .u64 (Oct.word mm 0 : Nat), .int .u64 (Oct.word mm 1 : Nat), .int .u64 (Oct.word mm 2 : Nat), .int .u64 (Oct.word mm 3 : Nat)] 31)) w7.heap.size vv (Lc ss s c)) := HO.out.later kw
                  have HM10 := sb_new w9 mm
                  obtain ⟨w10, hw10⟩ : ∃ w10, w9.alloc (.cells #[.int .u64 (Oct.word mm 0 : Nat), .int .u64 (Oct.word mm 1 : Nat), .int .u64 (Oct.word mm 2 : Nat), .int .u64 (Oct.word mm 3 : Nat)] 31) = w10 := ⟨_, rfl⟩
                  obtain ⟨R, hR⟩ : ∃ R, w9.heap.size = R := ⟨_, rfl⟩
                  rw [hw10] at kb kw HO10 HM10
                  rw [hR] at HM10
                  have HK10 : Hid (Below w7.heap.size w7 w10) := kb
                  have HMM : Hid (SB w10 R mm) := HM10
                  have HS10 := HSB9.out.later kw
                  have HW10 : Hid (w9.alloc (.cells #[.int .u64 (Oct.word mm 0 : Nat), .int .u64 (Oct.word mm 1 : Nat), .int .u64 (Oct.word mm 2 : Nat), .int .u64 (Oct.word mm 3 : Nat)] 31) = w10) := hw10
                  have HR10 : Hid (w9.heap.size = R) := hR
                  obtain ⟨m0, m1, m2, m3⟩ := HM10.cells
                  obtain ⟨s0, s1, s2, s3⟩ := HS10.cells
                  clear kb kw hb9 hw10 hR HM10 HS10 HO HB HT9 HSB9
                  unfold setV
                  go_upto_region 38 with fail
                  rw [HW10.out, HR10.out]
                  clear HW10 HR10
                  go_wp2_with fail
                  refine (meet_gen mm s w10).mono ?_
                  rintro e w11 ⟨rfl, hb11⟩
                  have HO11 : Hid (OwnsS w11 w7.heap.size vv (Lc ss s c)) := HO10.out.later hb11
                  have HK11 : Hid (Below w7.heap.size w7 w11) := below_trans HK10.out hb11 HK10.out.size
                  obtain ⟨m0', m1', m2', m3'⟩ := (HMM.out.later hb11).cells
                  have heq : ∀ u, (Op.equalIn 10000 31 (.agg #[.int .u64 (Oct.word (Oct.meet mm s) 0 : Nat), .int .u64 (Oct.word (Oct.meet mm s) 1 : Nat), .int .u64 (Oct.word (Oct.meet mm s) 2 : Nat), .int .u64 (Oct.word (Oct.meet mm s) 3 : Nat)]) (.agg #[.int .u64 0, .int .u64 0, .int .u64 0, .int .u64 0])).run Try.prog u = .ok (noSet (Oct.meet mm s)) u := fun u => eq4_zero _ _ _ _ u
                  obtain ⟨z, hz⟩ : ∃ z, z = noSet (Oct.meet mm s) := ⟨_, rfl⟩
                  rw [← hz] at HLX heq
                  clear hz hb11 m0 m1 m2 m3 s0 s1 s2 s3 HO10 HK10
                  cases z
                  · have HLY : Hid (Lc ss s (c + 1) = Lc ss s c ++ [mm]) := HLX.out
                    have k12 : Below w11.heap.size w11 (w11.alloc (.cells #[.int .u64 (Oct.word mm 0 : Nat), .int .u64 (Oct.word mm 1 : Nat), .int .u64 (Oct.word mm 2 : Nat), .int .u64 (Oct.word mm 3 : Nat)] 31)) := (Below.refl _ _).alloc (Nat.le_refl _) _
                    have HO12 : Hid (OwnsS (w11.alloc (.cells #[.int .u64 (Oct.word mm 0 : Nat), .int .u64 (Oct.word mm 1 : Nat), .int .u64 (Oct.word mm 2 : Nat), .int .u64 (Oct.word mm 3 : Nat)] 31)) w7.heap.size vv (Lc ss s c)) := HO11.out.later k12
                    have HK12 : Hid (Below w7.heap.size w7 (w11.alloc (.cells #[.int .u64 (Oct.word mm 0 : Nat), .int .u64 (Oct.word mm 1 : Nat), .int .u64 (Oct.word mm 2 : Nat), .int .u64 (Oct.word mm 3 : Nat)] 31))) := HK11.out.alloc HK11.out.size _
                    have hsl : SL (w11.alloc (.cells #[.int .u64 (Oct.word mm 0 : Nat), .int .u64 (Oct.word mm 1 : Nat), .int .u64 (Oct.word mm 2 : Nat), .int .u64 (Oct.word mm 3 : Nat)] 31)) w11.heap.size [mm] := ⟨heap_alloc_new w11 _⟩
                    have HSL : Hid (SetsAt (w11.alloc (.cells #[.int .u64 (Oct.word mm 0 : Nat), .int .u64 (Oct.word mm 1 : Nat), .int .u64 (Oct.word mm 2 : Nat), .int .u64 (Oct.word mm 3 : Nat)] 31)) (some ⟨w11.heap.size, 0, none⟩) [mm]) := hsl.at
                    clear k12 hsl HLX
                    go_wp2_with (at_builtin; go_must (refine wpList_append_setsN rfl _ _ rfl w7 _ (Lc ss s c) rfl HO12.out HK12.out (some ⟨w11.heap.size, 0, none⟩) 1 1 [mm] rfl rfl HSL.out (by have := HLN.out; simp; omega) (by simp) ?_; intro v14 w14 ho14 hb14; have HO14 : Hid (OwnsS w14 w7.heap.size v14 (Lc ss s c ++ [mm])) := ho14; have HB14 : Hid (Below w7.heap.size w7 w14) := hb14; clear ho14 hb14))
                    go_roundw
                    case rel => exact ⟨c + 1, v14, rfl, by omega, by go_num, by rw [HLY.out]; exact HO14, HB14⟩
                    case measure => simp [intOf]; omega
                  · have HLY : Hid (Lc ss s (c + 1) = Lc ss s c) := by show _ = _; rw [HLX.out]; simp
                    go_wp2
                    go_roundw
                    case rel => exact ⟨c + 1, vv, rfl, by omega, by go_num, by rw [HLY.out]; exact HO11, HK11⟩
                    case measure => simp [intOf]; omega
                · have hc' : ¬ (c : Int) < (N : Int) := by omega
                  obtain rfl : c = N := by omega
                  obtain ⟨la, lc, e, hla, hlc⟩ := HO.out.at2
                  subst e
                  have hlj := Lc_joins HME.out
                  rw [← HNN.out] at hlj
                  have hll := Lc_len ss s c
                  have HJ : Hid (∀ u : Later wr, Calls Try.prog 17 #[.slice la (Lc ss s c).length lc] u.at_ fun e w' => e = .returned (.agg #[.int .u64 (Oct.word (Oct.joins (Lc ss s c)) 0 : Nat), .int .u64 (Oct.word (Oct.joins (Lc ss s c)) 1 : Nat), .int .u64 (Oct.word (Oct.joins (Lc ss s c)) 2 : Nat), .int .u64 (Oct.word (Oct.joins (Lc ss s c)) 3 : Nat)]) ∧ Below u.at_.heap.size u.at_ w') := fun u => join_any la _ lc (Lc ss s c) u.at_ rfl (by simp only [maxLen]; omega) (setsAt_later u.below hla)
                  have heq : ∀ u, (Op.equalIn 10000 31 (.agg #[.int .u64 (Oct.word (Oct.joins (Lc ss s c)) 0 : Nat), .int .u64 (Oct.word (Oct.joins (Lc ss s c)) 1 : Nat), .int .u64 (Oct.word (Oct.joins (Lc ss s c)) 2 : Nat), .int .u64 (Oct.word (Oct.joins (Lc ss s c)) 3 : Nat)]) (.agg #[.int .u64 (Oct.word s 0 : Nat), .int .u64 (Oct.word s 1 : Nat), .int .u64 (Oct.word s 2 : Nat), .int .u64 (Oct.word s 3 : Nat)])).run Try.prog u = .ok true u := fun u => by
                    rw [eq4_gen]
                    exact congrArg (fun b => Result.ok b u) hlj
                  have hne : Nonempty (Later wr) := ⟨⟨wr, Below.refl _ _⟩⟩
                  have d0 : ∀ u : Later wr, u.at_.cell? ⟨P, 0, none⟩ = some (.int .u64 (Oct.word s 0 : Nat)) := fun u => (HSB9.out.later u.below).cells.1
                  have d1 : ∀ u : Later wr, u.at_.cell? ⟨P, 1, none⟩ = some (.int .u64 (Oct.word s 1 : Nat)) := fun u => (HSB9.out.later u.below).cells.2.1
                  have d2 : ∀ u : Later wr, u.at_.cell? ⟨P, 2, none⟩ = some (.int .u64 (Oct.word s 2 : Nat)) := fun u => (HSB9.out.later u.below).cells.2.2.1
                  have d3 : ∀ u : Later wr, u.at_.cell? ⟨P, 3, none⟩ = some (.int .u64 (Oct.word s 3 : Nat)) := fun u => (HSB9.out.later u.below).cells.2.2.2
                  obtain ⟨jj, hjj⟩ : ∃ jj, jj = Oct.joins (Lc ss s c) := ⟨_, rfl⟩
                  rw [← hjj] at HJ heq
                  obtain ⟨ln, hln⟩ : ∃ ln, ln = (Lc ss s c).length := ⟨_, rfl⟩
                  rw [← hln] at HJ ⊢
                  clear hjj hln hll hlj hla hlc HO HSB9 HB HT8 HSB7
                  go_upto_region 40 with fail
                  go_cut [114] from 111 to 114 (fun b wx => b = .bool false ∧ Hid (Below wr.heap.size wr wx))
                  case first =>
                    refine wp_region_later (by kernel_rfl) (by kernel_rfl) ?_
                    repeat (first
                      | go_big_quiet_step ((go_at_call 17; exact calls_later (HJ.out _)))
                      | quiet_step ((go_at_call 17; exact calls_later (HJ.out _))))
                    refine wpQuiet_nil ?_
                    intro _ hw'
                    obtain ⟨u, hw''⟩ := hw'
                    subst hw''
                    go_wp2_with fail
                    go_meet
                    case rel => exact ⟨rfl, u.below⟩
                  case rest =>
                  obtain ⟨rfl, kx⟩ := hcut
                  have HTX : Hid (Tl ss w1 wc (some ⟨g, off, none⟩) A) := HT9.out.later kx.out
                  clear hne d0 d1 d2 d3 kx HJ heq HT9
                  go_wp2
                  go_roundw
                  case rel => exact ⟨p + 1, by omega, by go_num, HTX⟩
                  case measure => simp [intOf]; omega
            · have hpm' : ¬ (p : Int) < (m : Int) := by omega
              go_wp2
              go_ret
              exact ⟨rfl, HT7.out.low⟩
end Go.Proofs.Ytemmicnhnaafmaa
