/- The walk of heronlaw03.OctetsJoins: every Join, Meet and Not. -/
import Derived.Test.YtkgpmaclaahmbaaRef1
import Derived.Test.YtkgpmaclaahmbaaRef2
import Derived.Test.YtkgpmaclaahmbaaRowset
import Derived.Test.YtkgpmaclaahmbaaLater
import Derived.Deep.DeepMust
import Derived.Deep.DeepCutAuto
namespace Go.Proofs.Ytkgpmaclaahmbaa
open Go.RowKit
attribute [local go_sem ↓] Go.wp_at_zero Go.wp_at_succ

/-- the set of the statement's own mark -/
def s77 : Oct.S := Oct.ofWords 77 0 0 0
theorem s77_0 : Oct.word s77 0 = 77 := (Oct.ofWords0 77 0 0 0 (by decide)).symm
theorem s77_1 : Oct.word s77 1 = 0 := (Oct.ofWords1 77 0 0 0 (by decide)).symm
theorem s77_2 : Oct.word s77 2 = 0 := (Oct.ofWords2 77 0 0 0 (by decide)).symm
theorem s77_3 : Oct.word s77 3 = 0 := (Oct.ofWords3 77 0 0 0 (by decide)).symm
/-- the first word one more -/
def up0 (s : Oct.S) : Oct.S := Oct.ofWords ((Oct.word s 0 + 1) % 18446744073709551616) (Oct.word s 1) (Oct.word s 2) (Oct.word s 3)
/-- the last word's highest bit turned -/
def up3 (s : Oct.S) : Oct.S := Oct.ofWords (Oct.word s 0) (Oct.word s 1) (Oct.word s 2) (Oct.word s 3 ^^^ 9223372036854775808)
theorem up0_0 (s : Oct.S) : Oct.word (up0 s) 0 = (Oct.word s 0 + 1) % 18446744073709551616 := (Oct.ofWords0 _ _ _ _ (by omega)).symm
theorem up0_1 (s : Oct.S) : Oct.word (up0 s) 1 = Oct.word s 1 := (Oct.ofWords1 _ _ _ _ (Oct.word_lt s 1)).symm
theorem up0_2 (s : Oct.S) : Oct.word (up0 s) 2 = Oct.word s 2 := (Oct.ofWords2 _ _ _ _ (Oct.word_lt s 2)).symm
theorem up0_3 (s : Oct.S) : Oct.word (up0 s) 3 = Oct.word s 3 := (Oct.ofWords3 _ _ _ _ (Oct.word_lt s 3)).symm
theorem up3_0 (s : Oct.S) : Oct.word (up3 s) 0 = Oct.word s 0 := (Oct.ofWords0 _ _ _ _ (Oct.word_lt s 0)).symm
theorem up3_1 (s : Oct.S) : Oct.word (up3 s) 1 = Oct.word s 1 := (Oct.ofWords1 _ _ _ _ (Oct.word_lt s 1)).symm
theorem up3_2 (s : Oct.S) : Oct.word (up3 s) 2 = Oct.word s 2 := (Oct.ofWords2 _ _ _ _ (Oct.word_lt s 2)).symm
theorem up3_3 (s : Oct.S) : Oct.word (up3 s) 3 = Oct.word s 3 ^^^ 9223372036854775808 := (Oct.ofWords3 _ _ _ _ (Nat.xor_lt_two_pow (n := 64) (Oct.word_lt s 3) (by decide))).symm
theorem sl1_new (w : World) (g : Nat) (hg : g = w.heap.size) : SL (w.alloc (.cells #[.int .u64 77, .int .u64 0, .int .u64 0, .int .u64 0] 24)) g [s77] := by
  subst hg
  have h : SL (w.alloc (.cells #[.int .u64 (Oct.word s77 0 : Nat), .int .u64 (Oct.word s77 1 : Nat), .int .u64 (Oct.word s77 2 : Nat), .int .u64 (Oct.word s77 3 : Nat)] 24)) w.heap.size [s77] := ⟨heap_alloc_new w _⟩
  rw [s77_0, s77_1, s77_2, s77_3] at h
  exact h

theorem rmeet_gen (s t : Oct.S) (w : World) : Calls Try.prog 22 #[.agg #[.int .u64 (Oct.word s 0 : Nat), .int .u64 (Oct.word s 1 : Nat), .int .u64 (Oct.word s 2 : Nat), .int .u64 (Oct.word s 3 : Nat)], .agg #[.int .u64 (Oct.word t 0 : Nat), .int .u64 (Oct.word t 1 : Nat), .int .u64 (Oct.word t 2 : Nat), .int .u64 (Oct.word t 3 : Nat)]] w fun e w' => e = .returned (.agg #[.int .u64 (Oct.word (Oct.meet s t) 0 : Nat), .int .u64 (Oct.word (Oct.meet s t) 1 : Nat), .int .u64 (Oct.word (Oct.meet s t) 2 : Nat), .int .u64 (Oct.word (Oct.meet s t) 3 : Nat)]) ∧ Below w.heap.size w w' := rmeet_any s t w
theorem rnot_gen (s : Oct.S) (w : World) : Calls Try.prog 23 #[.agg #[.int .u64 (Oct.word s 0 : Nat), .int .u64 (Oct.word s 1 : Nat), .int .u64 (Oct.word s 2 : Nat), .int .u64 (Oct.word s 3 : Nat)]] w fun e w' => e = .returned (.agg #[.int .u64 (Oct.word (Oct.inv s) 0 : Nat), .int .u64 (Oct.word (Oct.inv s) 1 : Nat), .int .u64 (Oct.word (Oct.inv s) 2 : Nat), .int .u64 (Oct.word (Oct.inv s) 3 : Nat)]) ∧ Below w.heap.size w w' := rnot_any s w
/-- the first sets turned -/
def turn (k : Nat) (l : List Oct.S) : List Oct.S := (l.take k).map (fun s => up3 (up0 s)) ++ l.drop k
theorem turn_length (k : Nat) (l : List Oct.S) : (turn k l).length = l.length := by
  simp only [turn, List.length_append, List.length_map, List.length_take, List.length_drop]
  omega
theorem turn_zero (l : List Oct.S) : turn 0 l = l := by simp [turn]
theorem turn_at (k : Nat) (l : List Oct.S) (s : Oct.S) (hk : l[k]? = some s) : (turn k l)[k]? = some s := by
  have hkl := (List.getElem?_eq_some_iff.1 hk).1
  simp only [turn]
  rw [List.getElem?_append_right (by simp; omega)]
  simp [Nat.min_eq_left (Nat.le_of_lt hkl), hk]
theorem turn_succ (k : Nat) (l : List Oct.S) (s : Oct.S) (hk : l[k]? = some s) : (turn k l).set k (up3 (up0 s)) = turn (k + 1) l := by
  obtain ⟨hkl, e⟩ := List.getElem?_eq_some_iff.1 hk
  unfold turn
  rw [List.set_append_right _ _ (by simp; omega), List.take_succ_eq_append_getElem hkl, List.map_append, List.append_assoc]
  congr 1
  have hd : l.drop k = l[k] :: l.drop (k + 1) := List.drop_eq_getElem_cons hkl
  rw [hd]
  simp only [List.length_map, List.length_take, Nat.min_eq_left (Nat.le_of_lt hkl), Nat.sub_self, List.set_cons_zero, e, List.map_cons, List.map_nil, List.singleton_append]
theorem add_one_word (s : Oct.S) : IntKind.u64.wrap (((Oct.word s 0 : Nat) : Int) + 1) = (Oct.word (up0 s) 0 : Nat) := by
  rw [up0_0, IntKind.wrap_u64]
  omega
theorem xor_top (s : Oct.S) : bits .xor .u64 (Oct.word s 3 : Nat) 9223372036854775808 = (Oct.word (up3 s) 3 : Nat) := by
  rw [up3_3, show (9223372036854775808 : Int) = ((9223372036854775808 : Nat) : Int) from rfl, u64_xor_nat _ _ (Oct.word_lt s 3) (by decide)]

set_option maxRecDepth 8000 in
set_option maxHeartbeats 8000000 in
theorem joins_law (a0 : Option Addr) (n cap : Nat) (l : List Oct.S) (a b : Oct.S) (w : World) (hn : n = l.length) (hl : n ≤ 4398046510976) (hat : SetsAt w a0 l) :
    Calls Try.prog 6 #[.slice a0 n cap, setV a, setV b] w fun e w' => e = .returned (.bool true) ∧ Below w.heap.size w w' := by
  have HN : Hid (n = l.length) := hn
  have HAT : Hid (SetsAt w a0 l) := hat
  clear hn hat
  unfold setV
  go_enter Try.func6, Try.ntmps6
  go_wp2_with fail
  refine (known_any _).mono ?_
  rintro e w1 ⟨rfl, hb1⟩
  obtain ⟨u1, hu1⟩ : ∃ u1, u1 = w.alloc (.cells #[.int .u64 (Oct.word a 0 : Nat), .int .u64 (Oct.word a 1 : Nat), .int .u64 (Oct.word a 2 : Nat), .int .u64 (Oct.word a 3 : Nat)] 24) := ⟨_, rfl⟩
  rw [← hu1] at hb1
  have z1 : u1.heap.size = w.heap.size + 1 := by rw [hu1]; simp
  have e1 : Below w.heap.size w u1 := by rw [hu1]; exact (Below.refl _ _).alloc (Nat.le_refl _) _
  have e2 := (Below.refl u1.heap.size u1).alloc (Nat.le_refl _) (.cells #[.int .u64 (Oct.word b 0 : Nat), .int .u64 (Oct.word b 1 : Nat), .int .u64 (Oct.word b 2 : Nat), .int .u64 (Oct.word b 3 : Nat)] 24)
  have HA1 : Hid (SB w1 w.heap.size a) := by
    have h : SB u1 w.heap.size a := by rw [hu1]; exact sb_new w a
    exact (h.later e2).later hb1
  have HB1 : Hid (SB w1 (w.heap.size + 1) b) := by
    have h : SB _ u1.heap.size b := sb_new u1 b
    rw [z1] at h
    exact h.later hb1
  have HW1 : Hid (Below w.heap.size w w1) := below_trans (below_trans e1 e2 e1.size) hb1 (by simp; omega)
  clear hb1 e1 e2 z1 hu1
  go_wp2_with fail
  refine (rjoin_any a0 n cap l _ HN.out (by simp only [maxLen]; omega) (setsAt_later HW1.out HAT.out)).mono ?_
  rintro e w2 ⟨rfl, hb2⟩
  unfold setV
  obtain ⟨w3, hw3⟩ : ∃ w3, w3 = w2.alloc (.cells #[.int .u64 (Oct.word (Oct.joins l) 0 : Nat), .int .u64 (Oct.word (Oct.joins l) 1 : Nat), .int .u64 (Oct.word (Oct.joins l) 2 : Nat), .int .u64 (Oct.word (Oct.joins l) 3 : Nat)] 24) := ⟨_, rfl⟩
  have hb3 : Below w1.heap.size w1 w3 := by rw [hw3]; exact hb2.alloc hb2.size _
  have HWT : Hid (SB w3 w2.heap.size (Oct.joins l)) := by rw [hw3]; exact sb_new w2 _
  have HW3 : Hid (w3 = _) := hw3
  obtain ⟨T, hT⟩ : ∃ T, T = w2.heap.size := ⟨_, rfl⟩
  have HA3 : Hid (SB w3 w.heap.size a) := HA1.out.later hb3
  have HB3 : Hid (SB w3 (w.heap.size + 1) b) := HB1.out.later hb3
  have HU3 : Hid (Below w.heap.size w w3) := below_trans HW1.out hb3 HW1.out.size
  clear hw3 hb2 hb3 HA1 HB1 HW1
  go_upto_region 5 with fail
  rw [← HW3.out, ← hT]
  rw [← hT] at HWT
  clear HW3 hT
  have HAT3 : Hid (SetsAt w3 a0 l) := setsAt_later HU3.out HAT.out
  go_upto_region 6 with (at_builtin; go_must (refine wpList_append_setsN rfl _ _ rfl w3 _ [] rfl (ownsS_nil _ _) (Below.refl _ _) a0 cap n l HN.out rfl HAT3.out (by rw [← HN.out]; simp; omega) (fun _ => rfl) ?_; intro v4 w4 ho4 hb4; have HO4 : Hid (OwnsS w4 w3.heap.size v4 l) := ho4; have HB4 : Hid (Below w3.heap.size w3 w4) := hb4; clear ho4 hb4))
  go_upto_region 7 with (at_builtin; go_must (refine wpList_append_setsN rfl _ _ rfl w3 _ l rfl (HO4.out.later ((Below.refl _ _).alloc (Nat.le_refl _) _)) (HB4.out.alloc HB4.out.size _) (some ⟨w4.heap.size, 0, none⟩) 1 1 [s77] rfl rfl (sl1_new w4 _ rfl).at (by rw [← HN.out]; simp; omega) (fun h => by cases h) ?_; intro v6 w6 ho6 hb6; have HO6 : Hid (OwnsS w6 w3.heap.size v6 (l ++ [s77])) := ho6; have HB6 : Hid (Below w3.heap.size w3 w6) := hb6; clear ho6 hb6))
  obtain ⟨g, c, rfl, hg3, _, hNc⟩ := HO6.out.form (by simp)
  have HG3 : Hid (w3.heap.size ≤ g) := hg3
  obtain ⟨L, hL⟩ : ∃ L, L = l ++ [s77] := ⟨_, rfl⟩
  have HLL : Hid (L = l ++ [s77]) := hL
  rw [← hL] at HO6 hNc ⊢
  obtain ⟨N, hN⟩ : ∃ N, N = L.length := ⟨_, rfl⟩
  have HNL : Hid (N = L.length) := hN
  have HNN : Hid (N = n + 1) := by show N = n + 1; rw [hN, hL, List.length_append, ← HN.out]; rfl
  rw [← hN] at HO6 hNc ⊢
  have hN1 : N ≤ 4398046510977 := by have := HNN.out; omega
  have hnN : n < N := by have := HNN.out; omega
  clear hN hL hg3 HO4 HB4
  have HWT6 : Hid (SB w6 T (Oct.joins l)) := HWT.out.later HB6.out
  have hc0 : (n : Int) ≤ (c : Int) := by omega
  have hc1 : (0 : Int) ≤ (n : Int) := by omega
  have hc2 : (n : Int) < (N : Int) := by omega
  have hne : Nonempty (Later w6) := ⟨⟨w6, Below.refl _ _⟩⟩
  have t0 : ∀ u : Later w6, u.at_.cell? ⟨T, 0, none⟩ = some (.int .u64 (Oct.word (Oct.joins l) 0 : Nat)) := fun u => (HWT6.out.later u.below).cells.1
  have t1 : ∀ u : Later w6, u.at_.cell? ⟨T, 1, none⟩ = some (.int .u64 (Oct.word (Oct.joins l) 1 : Nat)) := fun u => (HWT6.out.later u.below).cells.2.1
  have t2 : ∀ u : Later w6, u.at_.cell? ⟨T, 2, none⟩ = some (.int .u64 (Oct.word (Oct.joins l) 2 : Nat)) := fun u => (HWT6.out.later u.below).cells.2.2.1
  have t3 : ∀ u : Later w6, u.at_.cell? ⟨T, 3, none⟩ = some (.int .u64 (Oct.word (Oct.joins l) 3 : Nat)) := fun u => (HWT6.out.later u.below).cells.2.2.2
  have HQ : Hid (∀ u : Later w6, u.at_.cell? ⟨g, n * 4, none⟩ = some (.int .u64 77) ∧ u.at_.cell? ⟨g, n * 4 + 1, none⟩ = some (.int .u64 0) ∧ u.at_.cell? ⟨g, n * 4 + 2, none⟩ = some (.int .u64 0) ∧ u.at_.cell? ⟨g, n * 4 + 3, none⟩ = some (.int .u64 0)) := fun u => by
    have hk : L[n]? = some s77 := by rw [HLL.out, HN.out, List.getElem?_append_right (Nat.le_refl _)]; simp
    have h := (HO6.out.later u.below).cells HNL.out hk
    rw [s77_0, s77_1, s77_2, s77_3] at h
    exact h
  have q0 : ∀ u : Later w6, u.at_.cell? ⟨g, n * 4, none⟩ = some (.int .u64 77) := fun u => (HQ.out u).1
  have q1 : ∀ u : Later w6, u.at_.cell? ⟨g, n * 4 + 1, none⟩ = some (.int .u64 0) := fun u => (HQ.out u).2.1
  have q2 : ∀ u : Later w6, u.at_.cell? ⟨g, n * 4 + 2, none⟩ = some (.int .u64 0) := fun u => (HQ.out u).2.2.1
  have q3 : ∀ u : Later w6, u.at_.cell? ⟨g, n * 4 + 3, none⟩ = some (.int .u64 0) := fun u => (HQ.out u).2.2.2
  have HJ : Hid (∀ u : Later w6, Calls Try.prog 12 #[.slice (some ⟨g, 0, none⟩) n c] u.at_ fun e w' => e = .returned (.agg #[.int .u64 (Oct.word (Oct.joins l) 0 : Nat), .int .u64 (Oct.word (Oct.joins l) 1 : Nat), .int .u64 (Oct.word (Oct.joins l) 2 : Nat), .int .u64 (Oct.word (Oct.joins l) 3 : Nat)]) ∧ Below u.at_.heap.size u.at_ w') := fun u => by
    have h := (HO6.out.later u.below).at (m := n) HNL.out
    rw [HLL.out, HN.out, List.take_left] at h
    exact join_any _ n c l _ HN.out (by simp only [maxLen]; omega) h
  have eq := eq4_same
  go_cut [45] (fun b wx => b = .bool false ∧ Hid (Below w6.heap.size w6 wx))
  case first =>
    refine wp_region_later (by kernel_rfl) (by kernel_rfl) ?_
    repeat (first
      | go_big_quiet_step ((go_at_call 12; exact calls_later (HJ.out _)))
      | quiet_step ((go_at_call 12; exact calls_later (HJ.out _))))
    refine wpQuiet_nil ?_
    intro _ hw'
    obtain ⟨u, hw''⟩ := hw'
    subst hw''
    go_wp2_with fail
    go_meet
    case rel => exact ⟨rfl, u.below⟩
  case rest =>
  obtain ⟨rfl, k⟩ := hcut
  obtain ⟨w8, hw8⟩ : ∃ w8, w8 = wc := ⟨_, rfl⟩
  rw [← hw8] at k ⊢
  have HO8 : Hid (OwnsS w8 w3.heap.size (.slice (some ⟨g, 0, none⟩) N c) (turn 0 L)) := by rw [turn_zero]; exact HO6.out.later k.out
  have HB8 : Hid (Below w3.heap.size w3 w8) := below_trans HB6.out k.out HB6.out.size
  clear hw8 k HO6 HB6 HWT6 hne t0 t1 t2 t3 q0 q1 q2 q3 HJ HQ HWT
  go_wp2_with fail
  go_loopw [48] (fun i u => ∃ k : Nat, k ≤ n ∧ i = .int .i64 k ∧ Hid (OwnsS u w3.heap.size (.slice (some ⟨g, 0, none⟩) N c) (turn k L)) ∧ Hid (Below w3.heap.size w3 u)) (fun i _ => n - (intOf i).toNat)
  case atStart => exact ⟨0, Nat.zero_le _, rfl, HO8, HB8⟩
  case round =>
    clear HO8 HB8
    obtain ⟨k, hk, rfl, ho, hbb⟩ := hrel
    have HNT : Hid (∀ k, N = (turn k L).length) := fun k => by rw [turn_length]; exact HNL.out
    by_cases hlt : k < n
    · have hkl : k < l.length := by rw [← HN.out]; exact hlt
      obtain ⟨s, hs⟩ : ∃ s, l[k]? = some s := ⟨_, List.getElem?_eq_getElem hkl⟩
      have hsL : L[k]? = some s := by rw [HLL.out, List.getElem?_append_left hkl]; exact hs
      have HT : Hid ((turn k L)[k]? = some s) := turn_at k L s hsL
      have HTS : Hid ((turn k L).set k (up3 (up0 s)) = turn (k + 1) L) := turn_succ k L s hsL
      obtain ⟨ga, oa, rfl, _, _, _, _⟩ := setsAt_cell HAT3.out hbb.out hs
      have HSRC : Hid (∀ u : Later wr, ∃ b off, (some ⟨ga, oa, none⟩ : Option Addr) = some ⟨b, off, none⟩ ∧ u.at_.cell? ⟨b, off + k * 4, none⟩ = some (.int .u64 (Oct.word s 0 : Nat)) ∧ u.at_.cell? ⟨b, off + k * 4 + 1, none⟩ = some (.int .u64 (Oct.word s 1 : Nat)) ∧ u.at_.cell? ⟨b, off + k * 4 + 2, none⟩ = some (.int .u64 (Oct.word s 2 : Nat)) ∧ u.at_.cell? ⟨b, off + k * 4 + 3, none⟩ = some (.int .u64 (Oct.word s 3 : Nat))) := fun u => setsAt_cell HAT3.out (below_trans hbb.out u.below hbb.out.size) hs
      have HS4 : Hid (∀ u : Later wr, u.at_.cell? ⟨ga, oa + k * 4, none⟩ = some (.int .u64 (Oct.word s 0 : Nat)) ∧ u.at_.cell? ⟨ga, oa + k * 4 + 1, none⟩ = some (.int .u64 (Oct.word s 1 : Nat)) ∧ u.at_.cell? ⟨ga, oa + k * 4 + 2, none⟩ = some (.int .u64 (Oct.word s 2 : Nat)) ∧ u.at_.cell? ⟨ga, oa + k * 4 + 3, none⟩ = some (.int .u64 (Oct.word s 3 : Nat))) := fun u => by
        obtain ⟨b', o', e', h⟩ := HSRC.out u
        cases e'
        exact h
      have s0 : ∀ u : Later wr, u.at_.cell? ⟨ga, oa + k * 4, none⟩ = some (.int .u64 (Oct.word s 0 : Nat)) := fun u => (HS4.out u).1
      have s1 : ∀ u : Later wr, u.at_.cell? ⟨ga, oa + k * 4 + 1, none⟩ = some (.int .u64 (Oct.word s 1 : Nat)) := fun u => (HS4.out u).2.1
      have s2 : ∀ u : Later wr, u.at_.cell? ⟨ga, oa + k * 4 + 2, none⟩ = some (.int .u64 (Oct.word s 2 : Nat)) := fun u => (HS4.out u).2.2.1
      have s3 : ∀ u : Later wr, u.at_.cell? ⟨ga, oa + k * 4 + 3, none⟩ = some (.int .u64 (Oct.word s 3 : Nat)) := fun u => (HS4.out u).2.2.2
      have p0 : ∀ u : Later wr, u.at_.cell? ⟨g, k * 4, none⟩ = some (.int .u64 (Oct.word s 0 : Nat)) := fun u => ((ho.out.later u.below).cells (HNT.out k) HT.out).1
      have p1 : ∀ u : Later wr, u.at_.cell? ⟨g, k * 4 + 1, none⟩ = some (.int .u64 (Oct.word s 1 : Nat)) := fun u => ((ho.out.later u.below).cells (HNT.out k) HT.out).2.1
      have p2 : ∀ u : Later wr, u.at_.cell? ⟨g, k * 4 + 2, none⟩ = some (.int .u64 (Oct.word s 2 : Nat)) := fun u => ((ho.out.later u.below).cells (HNT.out k) HT.out).2.2.1
      have p3 : ∀ u : Later wr, u.at_.cell? ⟨g, k * 4 + 3, none⟩ = some (.int .u64 (Oct.word s 3 : Nat)) := fun u => ((ho.out.later u.below).cells (HNT.out k) HT.out).2.2.2
      clear hs hsL hkl HSRC HS4
      have hne : Nonempty (Later wr) := ⟨⟨wr, Below.refl _ _⟩⟩
      have k0 : (0 : Int) ≤ (k : Int) := by omega
      have k1 : (k : Int) < (n : Int) := by omega
      have k2 : (k : Int) < (N : Int) := by omega
      have hd : decide ((k : Int) < (n : Int)) = true := by simp; omega
      go_upto_region 12 with fail
      go_cut [59] (fun b wx => b = .bool false ∧ Hid (Below wr.heap.size wr wx))
      case first =>
        refine wp_region_later (by kernel_rfl) (by kernel_rfl) ?_
        repeat (first
          | go_big_quiet_step (fail)
          | quiet_step (fail))
        refine wpQuiet_nil ?_
        intro _ hw'
        obtain ⟨u, hw''⟩ := hw'
        subst hw''
        go_wp2_with fail
        go_meet
        case rel => exact ⟨rfl, u.below⟩
      case rest =>
      obtain ⟨rfl, kk⟩ := hcut
      obtain ⟨w9, hw9⟩ : ∃ w9, w9 = wc := ⟨_, rfl⟩
      rw [← hw9] at kk ⊢
      have HO9 : Hid (OwnsS w9 w3.heap.size (.slice (some ⟨g, 0, none⟩) N c) (turn k L)) := ho.out.later kk.out
      have HB9 : Hid (Below w3.heap.size w3 w9) := below_trans hbb.out kk.out hbb.out.size
      clear hw9 kk ho hbb s0 s1 s2 s3 p0 p1 p2 p3 hne
      obtain ⟨p0, p1, p2, p3⟩ := HO9.out.cells (HNT.out k) HT.out
      have f0 := HO9.out.frozen (HNT.out k) (k * 4)
      go_upto_region 14 with fail
      go_region_with (fail)
      obtain ⟨w10, hw10⟩ : ∃ w10, w10 = (w9.setCell ⟨g, k * 4, none⟩ (.int .u64 (IntKind.u64.wrap (((Oct.word s 0 : Nat) : Int) + 1)))).drew := ⟨_, rfl⟩
      have HO10 : Hid (OwnsS w10 w3.heap.size (.slice (some ⟨g, 0, none⟩) N c) ((turn k L).set k (up0 s))) := by
        have h := HO9.out.put (HNT.out k) k 0 s (up0 s) HT.out (by decide) (.int .u64 (IntKind.u64.wrap (((Oct.word s 0 : Nat) : Int) + 1))) (by rw [add_one_word]; rfl) (fun i h4 hne => by
          have h3 : i = 1 ∨ i = 2 ∨ i = 3 := by omega
          rcases h3 with rfl | rfl | rfl
          · simp [cells4, up0_1]
          · simp [cells4, up0_2]
          · simp [cells4, up0_3])
        rw [hw10]
        exact h.later (Below.refl _ _).drew
      have HB10 : Hid (Below w3.heap.size w3 w10) := by rw [hw10]; exact (HB9.out.setCell (p := ⟨g, k * 4, none⟩) HG3.out _).drew
      rw [← hw10]
      clear hw10 p0 p1 p2 p3 f0
      have HT10 : Hid (((turn k L).set k (up0 s))[k]? = some (up0 s)) := by
        show _ = _
        rw [List.getElem?_set_self (by rw [← HNT.out k]; omega)]
      have HN10 : Hid (N = ((turn k L).set k (up0 s)).length) := by show _ = _; rw [List.length_set]; exact HNT.out k
      obtain ⟨p0, p1, p2, p3⟩ := HO10.out.cells HN10.out HT10.out
      have f3 := HO10.out.frozen HN10.out (k * 4 + 3)
      go_upto_region 15 with fail
      go_region_with (fail)
      obtain ⟨w11, hw11⟩ : ∃ w11, w11 = (w10.setCell ⟨g, k * 4 + 3, none⟩ (.int .u64 (bits .xor .u64 (Oct.word (up0 s) 3 : Nat) 9223372036854775808))).drew := ⟨_, rfl⟩
      have HO11 : Hid (OwnsS w11 w3.heap.size (.slice (some ⟨g, 0, none⟩) N c) (turn (k + 1) L)) := by
        have h := HO10.out.put HN10.out k 3 (up0 s) (up3 (up0 s)) HT10.out (by decide) (.int .u64 (bits .xor .u64 (Oct.word (up0 s) 3 : Nat) 9223372036854775808)) (by rw [xor_top]; rfl) (fun i h4 hne => by
          have h3 : i = 0 ∨ i = 1 ∨ i = 2 := by omega
          rcases h3 with rfl | rfl | rfl
          · simp [cells4, up3_0]
          · simp [cells4, up3_1]
          · simp [cells4, up3_2])
        rw [List.set_set, HTS.out] at h
        rw [hw11]
        exact h.later (Below.refl _ _).drew
      have HB11 : Hid (Below w3.heap.size w3 w11) := by rw [hw11]; exact (HB10.out.setCell (p := ⟨g, k * 4 + 3, none⟩) HG3.out _).drew
      rw [← hw11]
      clear hw11 p0 p1 p2 p3 f3
      go_wp2_with fail
      go_roundw
      case rel => exact ⟨k + 1, by omega, by go_num, HO11, HB11⟩
      case measure => simp [intOf]; omega
    · have HK : Hid (k = n) := by show k = n; omega
      obtain ⟨q, hq⟩ : ∃ q, q = (turn n L).take n := ⟨_, rfl⟩
      have HQL : Hid (n = q.length) := by show n = q.length; rw [hq, List.length_take, ← HNT.out n, HNN.out]; omega
      have HPRE : Hid (∀ u : Later wr, SetsAt u.at_ (some ⟨g, 0, none⟩) q) := fun u => by
        have h := (ho.out.later u.below).at (m := n) (HNT.out k)
        rw [HK.out, ← hq] at h
        exact h
      have HJ : Hid (∀ u : Later wr, Calls Try.prog 12 #[.slice (some ⟨g, 0, none⟩) n c] u.at_ fun e w' => e = .returned (.agg #[.int .u64 (Oct.word (Oct.joins q) 0 : Nat), .int .u64 (Oct.word (Oct.joins q) 1 : Nat), .int .u64 (Oct.word (Oct.joins q) 2 : Nat), .int .u64 (Oct.word (Oct.joins q) 3 : Nat)]) ∧ Below u.at_.heap.size u.at_ w') := fun u => join_any _ n c q _ HQL.out (by simp only [maxLen]; omega) (HPRE.out u)
      have HR : Hid (∀ u : Later wr, Calls Try.prog 21 #[.slice (some ⟨g, 0, none⟩) n c] u.at_ fun e w' => e = .returned (.agg #[.int .u64 (Oct.word (Oct.joins q) 0 : Nat), .int .u64 (Oct.word (Oct.joins q) 1 : Nat), .int .u64 (Oct.word (Oct.joins q) 2 : Nat), .int .u64 (Oct.word (Oct.joins q) 3 : Nat)]) ∧ Below u.at_.heap.size u.at_ w') := fun u => rjoin_any _ n c q _ HQL.out (by simp only [maxLen]; omega) (HPRE.out u)
      clear hq
      have hne : Nonempty (Later wr) := ⟨⟨wr, Below.refl _ _⟩⟩
      have HA9 : Hid (SB wr w.heap.size a) := HA3.out.later hbb.out
      have HB9 : Hid (SB wr (w.heap.size + 1) b) := HB3.out.later hbb.out
      have HU9 : Hid (Below w.heap.size w wr) := below_trans HU3.out hbb.out HU3.out.size
      go_upto_region 17 with fail
      go_cut [91] (fun b wx => b = .bool false ∧ Hid (Below wr.heap.size wr wx))
      case first =>
        refine wp_region_later (by kernel_rfl) (by kernel_rfl) ?_
        repeat (first
          | go_big_quiet_step (first | (go_at_call 12; exact calls_later (HJ.out _)) | (go_at_call 21; exact calls_later (HR.out _)))
          | quiet_step (first | (go_at_call 12; exact calls_later (HJ.out _)) | (go_at_call 21; exact calls_later (HR.out _))))
        refine wpQuiet_nil ?_
        intro _ hw'
        obtain ⟨u, hw''⟩ := hw'
        subst hw''
        go_wp2_with fail
        go_meet
        case rel => exact ⟨rfl, u.below⟩
      case rest =>
      obtain ⟨rfl, k9⟩ := hcut
      obtain ⟨w9, hw9⟩ : ∃ w9, w9 = wc := ⟨_, rfl⟩
      rw [← hw9] at k9 ⊢
      have HA10 : Hid (SB w9 w.heap.size a) := HA9.out.later k9.out
      have HB10 : Hid (SB w9 (w.heap.size + 1) b) := HB9.out.later k9.out
      have HU10 : Hid (Below w.heap.size w w9) := below_trans HU9.out k9.out HU9.out.size
      clear hw9 k9 HA9 HB9 HU9 HJ HR HPRE hne ho hbb
      have hne : Nonempty (Later w9) := ⟨⟨w9, Below.refl _ _⟩⟩
      have c0 : ∀ u : Later w9, u.at_.cell? ⟨w.heap.size, 0, none⟩ = some (.int .u64 (Oct.word (a) 0 : Nat)) := fun u => (HA10.out.later u.below).cells.1
      have c1 : ∀ u : Later w9, u.at_.cell? ⟨w.heap.size, 1, none⟩ = some (.int .u64 (Oct.word (a) 1 : Nat)) := fun u => (HA10.out.later u.below).cells.2.1
      have c2 : ∀ u : Later w9, u.at_.cell? ⟨w.heap.size, 2, none⟩ = some (.int .u64 (Oct.word (a) 2 : Nat)) := fun u => (HA10.out.later u.below).cells.2.2.1
      have c3 : ∀ u : Later w9, u.at_.cell? ⟨w.heap.size, 3, none⟩ = some (.int .u64 (Oct.word (a) 3 : Nat)) := fun u => (HA10.out.later u.below).cells.2.2.2
      have d0 : ∀ u : Later w9, u.at_.cell? ⟨w.heap.size + 1, 0, none⟩ = some (.int .u64 (Oct.word (b) 0 : Nat)) := fun u => (HB10.out.later u.below).cells.1
      have d1 : ∀ u : Later w9, u.at_.cell? ⟨w.heap.size + 1, 1, none⟩ = some (.int .u64 (Oct.word (b) 1 : Nat)) := fun u => (HB10.out.later u.below).cells.2.1
      have d2 : ∀ u : Later w9, u.at_.cell? ⟨w.heap.size + 1, 2, none⟩ = some (.int .u64 (Oct.word (b) 2 : Nat)) := fun u => (HB10.out.later u.below).cells.2.2.1
      have d3 : ∀ u : Later w9, u.at_.cell? ⟨w.heap.size + 1, 3, none⟩ = some (.int .u64 (Oct.word (b) 3 : Nat)) := fun u => (HB10.out.later u.below).cells.2.2.2
      go_upto_region 19 with fail
      refine wp_region_later (by kernel_rfl) (by kernel_rfl) ?_
      repeat (first
        | go_big_quiet_step (first
          | (go_at_call 19; exact calls_later (meet_gen a b _))
          | (go_at_call 22; exact calls_later (rmeet_gen a b _))
          | (go_at_call 20; exact calls_later (not_gen _ _))
          | (go_at_call 23; exact calls_later (rnot_gen _ _)))
        | quiet_step (first
          | (go_at_call 19; exact calls_later (meet_gen a b _))
          | (go_at_call 22; exact calls_later (rmeet_gen a b _))
          | (go_at_call 20; exact calls_later (not_gen _ _))
          | (go_at_call 23; exact calls_later (rnot_gen _ _))))
      refine wpQuiet_nil ?_
      intro _ hw'
      obtain ⟨u, hw''⟩ := hw'
      subst hw''
      go_wp2
      go_ret
      exact ⟨rfl, below_trans HU10.out u.below HU10.out.size⟩
end Go.Proofs.Ytkgpmaclaahmbaa
