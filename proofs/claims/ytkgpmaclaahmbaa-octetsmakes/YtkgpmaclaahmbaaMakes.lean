/- The walk of heronlaw03.OctetsMakes: every Of, Span and Class. -/
import Derived.Test.YtkgpmaclaahmbaaRefClass
import Derived.Test.YtkgpmaclaahmbaaRef1
import Derived.Test.YtkgpmaclaahmbaaRef2
import Derived.Test.YtkgpmaclaahmbaaRowb
import Derived.Test.YtkgpmaclaahmbaaLater
import Derived.Deep.DeepMust
namespace Go.Proofs.Ytkgpmaclaahmbaa
open Go.RowKit
attribute [local go_sem ↓] Go.wp_at_zero Go.wp_at_succ

/-- the first bytes raised by 101 -/
def bump (k : Nat) (l : List Nat) : List Nat := (l.take k).map (fun x => (x + 101) % 256) ++ l.drop k
theorem bump_length (k : Nat) (l : List Nat) : (bump k l).length = l.length := by
  simp only [bump, List.length_append, List.length_map, List.length_take, List.length_drop]
  omega
theorem bump_zero (l : List Nat) : bump 0 l = l := by simp [bump]
theorem bump_at (k : Nat) (l : List Nat) (hk : k < l.length) : (bump k l).getD k 0 = l.getD k 0 := by
  simp only [bump, List.getD]
  rw [List.getElem?_append_right (by simp; omega)]
  simp [Nat.min_eq_left (Nat.le_of_lt hk)]
theorem bump_succ (k : Nat) (l : List Nat) (hk : k < l.length) : (bump k l).set k ((l.getD k 0 + 101) % 256) = bump (k + 1) l := by
  unfold bump
  rw [List.set_append_right _ _ (by simp; omega), List.take_succ_eq_append_getElem hk, List.map_append, List.append_assoc]
  congr 1
  have hd : l.drop k = l[k] :: l.drop (k + 1) := List.drop_eq_getElem_cons hk
  rw [hd]
  simp only [List.length_map, List.length_take, Nat.min_eq_left (Nat.le_of_lt hk), Nat.sub_self, List.set_cons_zero, List.getD, List.getElem?_eq_getElem hk, Option.getD_some, List.map_cons, List.map_nil, List.singleton_append]
theorem bump_lt (k : Nat) (l : List Nat) (h : ∀ b ∈ l, b < 256) : ∀ b ∈ bump k l, b < 256 := by
  intro b hb
  rcases List.mem_append.1 hb with h1 | h1
  · obtain ⟨x, _, rfl⟩ := List.mem_map.1 h1
    omega
  · exact h b (List.mem_of_mem_drop h1)
theorem ints_append (a b : List Nat) : ints (a ++ b) = ints a ++ ints b := by simp [ints]
theorem ints_take (a : List Nat) (n : Nat) : (ints a).take n = ints (a.take n) := by simp [ints]
theorem ints_set (a : List Nat) (n x : Nat) : (ints a).set n (x : Int) = ints (a.set n x) := by simp [ints, List.map_set]

set_option maxRecDepth 100000 in
set_option maxHeartbeats 8000000 in
theorem makes_any (a0 : Option Addr) (n cap f t : Nat) (bs : List Nat) (nm : ByteArray) (w : World) (hn : n = bs.length) (hl : n ≤ 140737488351232) (hat : BytesAt w a0 bs) (hb : ∀ b ∈ bs, b < 256) (hf : f < 256) (ht : t < 256) :
    Calls Try.prog 7 #[.slice a0 n cap, .int .u8 f, .int .u8 t, .string nm] w fun e w' => e = .returned (.bool true) ∧ Below w.heap.size w w' := by
  have HN : Hid (n = bs.length) := hn
  have HAT : Hid (BytesAt w a0 bs) := hat
  have HBS : Hid (∀ b ∈ bs, b < 256) := hb
  clear hn hat hb
  go_enter Try.func7, Try.ntmps7
  go_wp2_with fail
  refine (known_any _).mono ?_
  rintro e w1 ⟨rfl, hb1⟩
  have HB1 : Hid (Below w.heap.size w w1) := hb1
  clear hb1
  go_wp2_with fail
  refine (rof_any a0 n cap bs _ HN.out (by simp only [maxLen]; omega) (bytesAt_later HB1.out HAT.out) HBS.out).mono ?_
  rintro e w2 ⟨rfl, hb2⟩
  unfold setV
  obtain ⟨w3, hw3⟩ : ∃ w3, w3 = w2.alloc (.cells #[.int .u64 (Oct.word (Oct.has bs) 0 : Nat), .int .u64 (Oct.word (Oct.has bs) 1 : Nat), .int .u64 (Oct.word (Oct.has bs) 2 : Nat), .int .u64 (Oct.word (Oct.has bs) 3 : Nat)] 24) := ⟨_, rfl⟩
  have HB3 : Hid (Below w.heap.size w w3) := by
    have h := below_trans HB1.out hb2 HB1.out.size
    rw [hw3]
    exact h.alloc h.size _
  have HWT : Hid (SB w3 w2.heap.size (Oct.has bs)) := by rw [hw3]; exact sb_new w2 _
  have HW3 : Hid (w3 = _) := hw3
  obtain ⟨T, hT⟩ : ∃ T, T = w2.heap.size := ⟨_, rfl⟩
  clear hw3 hb2 HB1
  go_upto_region 5 with fail
  rw [← HW3.out, ← hT]
  rw [← hT] at HWT
  clear HW3 hT
  go_upto_region 6 with (at_builtin; go_must (refine wpList_append_bytesN rfl _ _ rfl w3 _ [] rfl (ownsN_nil _ _) (Below.refl _ _) a0 cap n (ints bs) (by rw [ints_length]; exact HN.out) rfl (bytesI_of (bytesAt_later HB3.out HAT.out)) (by rw [ints_length, ← HN.out]; simp; omega) ?_; intro v4 w4 ho4 hb4; have HO4 : Hid (OwnsN w4 w3.heap.size v4 (ints bs)) := ho4; have HB4 : Hid (Below w3.heap.size w3 w4) := hb4; clear ho4 hb4))
  go_upto_region 7 with (at_builtin; go_must (refine wpList_append_bytesN rfl _ _ rfl w3 _ (ints bs) rfl (HO4.out.later ((Below.refl _ _).alloc (Nat.le_refl _) _)) (HB4.out.alloc HB4.out.size _) (some ⟨w4.heap.size, 0, none⟩) 1 1 (ints [165]) rfl rfl (bytesI_of (bytesAt_new w4 [165] 5 (0, 0))) (by rw [ints_length, ← HN.out]; simp [ints]; omega) ?_; intro v6 w6 ho6 hb6; have HO6 : Hid (OwnsN w6 w3.heap.size v6 (ints (bs ++ [165]))) := (by rw [ints_append]; exact ho6); have HB6 : Hid (Below w3.heap.size w3 w6) := hb6; clear ho6 hb6))
  have HO7 : Hid (Owns w6 w3.heap.size v6 (ints (bs ++ [165]))) := HO6.out.owns (by simp [ints])
  obtain ⟨g, c, rfl, hg3, _, hby, hnc, hcm, _⟩ := HO7.out.form
  have hlen : (ints (bs ++ [165])).length = n + 1 := by rw [ints_length, List.length_append, ← HN.out]; rfl
  rw [hlen] at hnc HO7 ⊢
  have HBY : Hid (BytesI w6 (some ⟨g, 0, none⟩) (ints (bs ++ [165]))) := hby
  have HG3 : Hid (w3.heap.size ≤ g) := hg3
  have HWT6 : Hid (SB w6 T (Oct.has bs)) := HWT.out.later HB6.out
  have hc0 : (n : Int) ≤ (c : Int) := by omega
  have hc1 : (0 : Int) ≤ (n : Int) := by omega
  clear hlen hby hg3 HO4 HB4 HO6 HWT
  have hne : Nonempty (Later w6) := ⟨⟨w6, Below.refl _ _⟩⟩
  have t0 : ∀ u : Later w6, u.at_.cell? ⟨T, 0, none⟩ = some (.int .u64 (Oct.word (Oct.has bs) 0 : Nat)) := fun u => (HWT6.out.later u.below).cells.1
  have t1 : ∀ u : Later w6, u.at_.cell? ⟨T, 1, none⟩ = some (.int .u64 (Oct.word (Oct.has bs) 1 : Nat)) := fun u => (HWT6.out.later u.below).cells.2.1
  have t2 : ∀ u : Later w6, u.at_.cell? ⟨T, 2, none⟩ = some (.int .u64 (Oct.word (Oct.has bs) 2 : Nat)) := fun u => (HWT6.out.later u.below).cells.2.2.1
  have t3 : ∀ u : Later w6, u.at_.cell? ⟨T, 3, none⟩ = some (.int .u64 (Oct.word (Oct.has bs) 3 : Nat)) := fun u => (HWT6.out.later u.below).cells.2.2.2
  have hlast : ∀ u : Later w6, u.at_.cell? ⟨g, n, none⟩ = some (.int .u8 165) := fun u => by
    have h := ((HO7.out.later u.below).cellAt (j := n) (by rw [ints_length, List.length_append, ← HN.out]; simp)).1
    rw [ints_at _ _ (by rw [List.length_append, ← HN.out]; simp)] at h
    rw [h]
    simp [HN.out]
  have HPRE : Hid (∀ u : Later w6, BytesAt u.at_ (some ⟨g, 0, none⟩) bs) := fun u => by
    have h := bytesI_take n (bytesI_later u.below HBY.out)
    rw [ints_take, HN.out, List.take_left] at h
    exact bytesAt_of h
  obtain ⟨S, hS⟩ : ∃ S, S = strOfNums (ints bs) := ⟨_, rfl⟩
  have s0 : ∀ u : Later w6, (convert 27 9 (.slice (some ⟨g, 0, none⟩) n c)).run Try.prog u.at_ = .ok (.string S) u.at_ := fun u => by rw [hS]; exact conv_string _ _ _ c _ (by rw [ints_length]; exact HN.out) (bytesI_of (HPRE.out u))
  have s1 : ∀ u : Later w6, (convert 27 9 (.slice a0 n cap)).run Try.prog u.at_ = .ok (.string S) u.at_ := fun u => by rw [hS]; exact conv_string _ _ _ cap _ (by rw [ints_length]; exact HN.out) (bytesI_of (bytesAt_later (below_trans HB6.out u.below HB6.out.size) (bytesAt_later HB3.out HAT.out)))
  have HOF : Hid (∀ u : Later w6, Calls Try.prog 13 #[.slice (some ⟨g, 0, none⟩) n c] u.at_ fun e w' => e = .returned (.agg #[.int .u64 (Oct.word (Oct.has bs) 0 : Nat), .int .u64 (Oct.word (Oct.has bs) 1 : Nat), .int .u64 (Oct.word (Oct.has bs) 2 : Nat), .int .u64 (Oct.word (Oct.has bs) 3 : Nat)]) ∧ Below u.at_.heap.size u.at_ w') := fun u => of_any _ n c bs _ HN.out (by simp only [maxLen]; omega) (HPRE.out u) HBS.out
  have eq := eq4_same
  clear hS
  go_cut [59] (fun b wx => b = .bool false ∧ Hid (Below w6.heap.size w6 wx))
  case first =>
    refine wp_region_later (by kernel_rfl) (by kernel_rfl) ?_
    repeat (first
      | go_big_quiet_step ((go_at_call 13; exact calls_later (HOF.out _)))
      | quiet_step ((go_at_call 13; exact calls_later (HOF.out _))))
    refine wpQuiet_nil ?_
    intro _ hw'
    obtain ⟨u, hw''⟩ := hw'
    subst hw''
    go_wp2_with fail
    go_meet
    case rel => exact ⟨rfl, u.below⟩
  case rest =>
  obtain ⟨rfl, k⟩ := hcut
  obtain ⟨w8, hw8⟩ : ∃ w8, w8 = wc := ⟨_, rfl⟩
  rw [← hw8] at k ⊢
  have HO8 : Hid (Owns w8 w3.heap.size (.slice (some ⟨g, 0, none⟩) (n + 1) c) (ints (bump 0 (bs ++ [165])))) := by rw [bump_zero]; exact HO7.out.later k.out
  have HB8 : Hid (Below w3.heap.size w3 w8) := below_trans HB6.out k.out HB6.out.size
  clear hw8 k HO7 HB6 HBY HWT6 hne t0 t1 t2 t3 hlast HPRE s0 s1 HOF
  obtain ⟨L, hL⟩ : ∃ L, L = bs ++ [165] := ⟨_, rfl⟩
  have HLL : Hid (L.length = n + 1) := by show L.length = n + 1; rw [hL, List.length_append, ← HN.out]; rfl
  have HLB : Hid (∀ b ∈ L, b < 256) := by
    intro b hb
    rw [hL] at hb
    rcases List.mem_append.1 hb with h | h
    · exact HBS.out b h
    · simp at h; omega
  rw [← hL] at HO8
  clear hL
  obtain ⟨N, hN⟩ : ∃ N, N = n + 1 := ⟨_, rfl⟩
  rw [← hN] at HO8 HLL ⊢
  have HNN : Hid (N = n + 1) := hN
  have hN1 : N ≤ 140737488351233 := by omega
  have hNc : (N : Int) ≤ (c : Int) := by omega
  clear hN
  go_wp2_with fail
  go_loopw [62] (fun i u => ∃ k : Nat, k ≤ N ∧ i = .int .i64 k ∧ Hid (Owns u w3.heap.size (.slice (some ⟨g, 0, none⟩) N c) (ints (bump k L))) ∧ Hid (Below w3.heap.size w3 u)) (fun i _ => N - (intOf i).toNat)
  case atStart => exact ⟨0, Nat.zero_le _, rfl, HO8, HB8⟩
  case round =>
    clear HO8 HB8
    obtain ⟨k, hk, rfl, ho, hbb⟩ := hrel
    by_cases hlt : k < N
    · have hkl : k < L.length := by rw [HLL.out]; exact hlt
      obtain ⟨h1, h2⟩ := ho.out.cellAt (j := k) (by rw [ints_length, bump_length]; exact hkl)
      rw [ints_at _ _ (by rw [bump_length]; exact hkl), bump_at k L hkl] at h1
      have hx : L.getD k 0 < 256 := HLB.out _ (getD_mem hkl)
      have HP : Hid ((bump k L).set k ((L.getD k 0 + 101) % 256) = bump (k + 1) L) := bump_succ k L hkl
      obtain ⟨x, hxe⟩ : ∃ x, x = L.getD k 0 := ⟨_, rfl⟩
      rw [← hxe] at h1 hx HP
      clear hxe hkl
      go_wp2_with fail
      go_roundw
      case rel =>
        refine ⟨k + 1, by omega, by go_num, ?_, hbb.out.setCell (p := ⟨g, k, none⟩) HG3.out _⟩
        have h := ho.out.put k (((x + 101) % 256 : Nat) : Int)
        rw [ints_set, HP.out] at h
        show Owns _ _ _ _
        simpa using h
      case measure => simp [intOf]; omega
    · have HK : Hid (k = n + 1) := by show k = n + 1; rw [← HNN.out]; omega
      obtain ⟨q, hq⟩ : ∃ q, q = (bump (n + 1) L).take n := ⟨_, rfl⟩
      have HQL : Hid (n = q.length) := by show n = q.length; rw [hq, List.length_take, bump_length, HLL.out, HNN.out]; omega
      have HQB : Hid (∀ b ∈ q, b < 256) := fun b hb => bump_lt (n + 1) L HLB.out b (by rw [hq] at hb; exact List.mem_of_mem_take hb)
      have HPRE : Hid (∀ u : Later wr, BytesAt u.at_ (some ⟨g, 0, none⟩) q) := fun u => by
        obtain ⟨g', _, e, _, _, hby, _⟩ := (ho.out.later u.below).form
        have e1 : g = g' := by
          injection e with e1
          injection e1 with e1
          injection e1
        subst e1
        have h := bytesI_take n hby
        rw [ints_take, HK.out, ← hq] at h
        exact bytesAt_of h
      have HOF : Hid (∀ u : Later wr, Calls Try.prog 13 #[.slice (some ⟨g, 0, none⟩) n c] u.at_ fun e w' => e = .returned (.agg #[.int .u64 (Oct.word (Oct.has q) 0 : Nat), .int .u64 (Oct.word (Oct.has q) 1 : Nat), .int .u64 (Oct.word (Oct.has q) 2 : Nat), .int .u64 (Oct.word (Oct.has q) 3 : Nat)]) ∧ Below u.at_.heap.size u.at_ w') := fun u => of_any _ n c q _ HQL.out (by simp only [maxLen]; omega) (HPRE.out u) HQB.out
      have HRF : Hid (∀ u : Later wr, Calls Try.prog 24 #[.slice (some ⟨g, 0, none⟩) n c] u.at_ fun e w' => e = .returned (.agg #[.int .u64 (Oct.word (Oct.has q) 0 : Nat), .int .u64 (Oct.word (Oct.has q) 1 : Nat), .int .u64 (Oct.word (Oct.has q) 2 : Nat), .int .u64 (Oct.word (Oct.has q) 3 : Nat)]) ∧ Below u.at_.heap.size u.at_ w') := fun u => rof_any _ n c q _ HQL.out (by simp only [maxLen]; omega) (HPRE.out u) HQB.out
      clear hq
      have hne : Nonempty (Later wr) := ⟨⟨wr, Below.refl _ _⟩⟩
      have HBW : Hid (Below w.heap.size w wr) := below_trans HB3.out hbb.out HB3.out.size
      obtain ⟨x, z, hcl, hrcl⟩ := class_both nm
      have HCL : Hid (∀ w, Calls Try.prog 25 #[.string nm] w fun e w' => e = .returned (.tuple #[setV x, .int .i64 z]) ∧ Below w.heap.size w w') := hcl
      have HRCL : Hid (∀ w, Calls Try.prog 26 #[.string nm] w fun e w' => e = .returned (.tuple #[setV x, .int .i64 z]) ∧ Below w.heap.size w w') := hrcl
      clear hcl hrcl
      go_upto_region 14 with fail
      go_cut [84] (fun b wx => b = .bool false ∧ Hid (Below wr.heap.size wr wx))
      case first =>
        refine wp_region_later (by kernel_rfl) (by kernel_rfl) ?_
        repeat (first
          | go_big_quiet_step (first | (go_at_call 13; exact calls_later (HOF.out _)) | (go_at_call 24; exact calls_later (HRF.out _)))
          | quiet_step (first | (go_at_call 13; exact calls_later (HOF.out _)) | (go_at_call 24; exact calls_later (HRF.out _))))
        refine wpQuiet_nil ?_
        intro _ hw'
        obtain ⟨u, hw''⟩ := hw'
        subst hw''
        go_wp2_with fail
        go_meet
        case rel => exact ⟨rfl, u.below⟩
      case rest =>
      obtain ⟨rfl, k9⟩ := hcut
      obtain ⟨w9, hw9⟩ : ∃ w9, w9 = wc := ⟨_, rfl⟩
      rw [← hw9] at k9 ⊢
      have HB9 : Hid (Below w.heap.size w w9) := below_trans HBW.out k9.out HBW.out.size
      clear hw9 k9 HBW HOF HRF HPRE hne ho hbb
      go_wp2_with fail
      refine (HCL.out _).mono ?_
      rintro e w10 ⟨rfl, k10⟩
      have HB10 : Hid (Below w.heap.size w w10) := below_trans HB9.out k10 HB9.out.size
      clear k10 HB9
      unfold setV
      go_wp2_with fail
      refine (HRCL.out _).mono ?_
      rintro e w11 ⟨rfl, k11⟩
      have HX11 : Hid (SB w11 w10.heap.size x) := (sb_new w10 x).later k11
      have HB11 : Hid (Below w.heap.size w w11) := below_trans (HB10.out.alloc HB10.out.size _) k11 (by have := HB10.out.size; simp; omega)
      clear k11 HB10
      unfold setV
      obtain ⟨w12, hw12⟩ : ∃ w12, w12 = w11.alloc (.cells #[.int .u64 (Oct.word x 0 : Nat), .int .u64 (Oct.word x 1 : Nat), .int .u64 (Oct.word x 2 : Nat), .int .u64 (Oct.word x 3 : Nat)] 24) := ⟨_, rfl⟩
      have HY12 : Hid (SB w12 w11.heap.size x) := by rw [hw12]; exact sb_new w11 x
      have HX12 : Hid (SB w12 w10.heap.size x) := by rw [hw12]; exact HX11.out.later ((Below.refl _ _).alloc (Nat.le_refl _) _)
      have HB12 : Hid (Below w.heap.size w w12) := by rw [hw12]; exact HB11.out.alloc HB11.out.size _
      have HW12 : Hid (w12 = _) := hw12
      clear hw12 HX11 HB11
      go_upto_region 18 with fail
      rw [← HW12.out]
      clear HW12
      obtain ⟨c0, c1, c2, c3⟩ := HX12.out.cells
      obtain ⟨d0, d1, d2, d3⟩ := HY12.out.cells
      go_wp2_with fail
      refine (span_gen f t _ hf ht).mono ?_
      rintro e w13 ⟨rfl, k13⟩
      have HB13 : Hid (Below w.heap.size w w13) := below_trans HB12.out k13 HB12.out.size
      clear k13
      go_wp2_with fail
      refine (rspan_any f t _).mono ?_
      rintro e w14 ⟨rfl, k14⟩
      have HB14 : Hid (Below w.heap.size w w14) := below_trans HB13.out k14 HB13.out.size
      clear k14
      unfold setV
      go_wp2
      go_ret
      exact ⟨rfl, HB14.out⟩
end Go.Proofs.Ytkgpmaclaahmbaa
