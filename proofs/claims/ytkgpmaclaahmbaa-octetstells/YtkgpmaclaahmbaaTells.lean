/- The walk of heronlaw03.OctetsTells: which bytes, how many, the rows: whole, left, again, inside itself. -/
import Derived.Test.YtkgpmaclaahmbaaGoes
import Derived.Test.YtkgpmaclaahmbaaRef1
import Derived.Test.YtkgpmaclaahmbaaLater
import Derived.Test.YtkgpmaclaahmbaaSlots
import Derived.Deep.RegionHeld3
import Derived.Laws.EntriesVeiled
import Derived.Deep.DrawnRows
import Derived.Deep.DeepCutAuto
namespace Go.Proofs.Ytkgpmaclaahmbaa
open Go.RowKit Go.Shelf
attribute [local go_sem ↓] Go.wp_at_zero Go.wp_at_succ
attribute [local go_sem] Oper.semAt_some

theorem boxed_later {w w' : World} {B : Nat} {t : TypeId} {v : Value} (h : Boxed w B t v) (hb : Below w.heap.size w w') : Boxed w' B t v := (hb.block B h.lt).trans h
theorem ownsP_at {w : World} {B : Nat} {v : Value} {l : List (Nat × Nat)} (h : OwnsP w B v l) : ∃ a n c, v = .slice a n c ∧ n = l.length ∧ PairsAt w a l := by
  by_cases e : l = []
  · subst e
    exact ⟨none, 0, 0, h.2.1 rfl, rfl, Or.inl rfl⟩
  · obtain ⟨g, c, rfl, _, _, _⟩ := h.form e
    exact ⟨_, _, c, rfl, rfl, Or.inr ⟨g, rfl, fun k x hk => h.cells rfl hk⟩⟩
theorem PairsAt.later {w w' : World} {a : Option Addr} {l : List (Nat × Nat)} (h : PairsAt w a l) (hb : Below w.heap.size w w') : PairsAt w' a l := by
  rcases h with h | ⟨g, rfl, hc⟩
  · exact Or.inl h
  · refine Or.inr ⟨g, rfl, fun k x hk => ?_⟩
    obtain ⟨p0, p1⟩ := hc k x hk
    have hg := World.block_lt_of_cell? w _ p0
    exact ⟨(hb.cell (p := ⟨g, k * 2, none⟩) hg).trans p0, (hb.cell (p := ⟨g, k * 2 + 1, none⟩) hg).trans p1⟩
set_option maxRecDepth 100000 in
set_option maxHeartbeats 4000000 in
theorem tells_any (s : Oct.S) (leave : Int) (w : World) : Calls Try.prog 4 #[setV s, .int .i64 leave] w fun e w' => e = .returned (.bool true) ∧ Below w.heap.size w w' := by
  refine (callsIn_wide (n := 9)).1 ?_
  refine callsIn_of_wp_marks Try.func4 rfl trivial (wpIn_wide.2 ?_) rfl
  simp only [Try.ntmps4, List.size_toArray, List.length_cons, List.length_nil, Nat.reduceAdd, Nat.reduceSub, Array.replicate_succ, Array.replicate_zero, List.push_toArray, List.append_toArray, List.nil_append, List.cons_append]
  unfold setV
  go_upto_region 1 with fail
  obtain ⟨u0, hu0⟩ : ∃ u0, u0 = w.alloc (.cells #[.int .u64 (Oct.word s 0 : Nat), .int .u64 (Oct.word s 1 : Nat), .int .u64 (Oct.word s 2 : Nat), .int .u64 (Oct.word s 3 : Nat)] 24) := ⟨_, rfl⟩
  obtain ⟨u3, hu3⟩ : ∃ u3, u3 = (u0.alloc (.cells #[.int .i64 leave] 3)).alloc (.cells #[.bool false] 4) := ⟨_, rfl⟩
  have z0 : u0.heap.size = w.heap.size + 1 := by rw [hu0]; simp
  have z3 : u3.heap.size = w.heap.size + 1 + 1 + 1 := by rw [hu3]; simp [z0]
  have HS3 : Hid (SB u3 w.heap.size s) := by
    have h : SB u0 w.heap.size s := by rw [hu0]; exact sb_new w s
    rw [hu3]
    exact (h.later ((Below.refl _ _).alloc (Nat.le_refl _) _)).later ((Below.refl _ _).alloc (Nat.le_refl _) _)
  have HL3 : Hid (Boxed u3 (w.heap.size + 1) 3 (.int .i64 leave)) := by
    have h := (Boxed.new u0 3 (.int .i64 leave)).alloc (.cells #[.bool false] 4)
    rw [z0, ← hu3] at h
    exact h
  have HR3 : Hid (Boxed u3 (w.heap.size + 1 + 1) 4 (.bool false)) := by
    have h := Boxed.new (u0.alloc (.cells #[.int .i64 leave] 3)) 4 (.bool false)
    rw [World.size_alloc, z0, ← hu3] at h
    exact h
  have HB3 : Hid (Below w.heap.size w u3) := by
    rw [hu3, hu0]
    exact (((Below.refl _ w).alloc (Nat.le_refl _) _).alloc (by simp) _).alloc (by simp; omega) _
  have HZ3 : Hid (u3.heap.size = w.heap.size + 1 + 1 + 1) := z3
  rw [← hu0, ← hu3]
  clear hu0 hu3 z0 z3
  have hne : Nonempty (Later u3) := ⟨⟨u3, Below.refl _ _⟩⟩
  have t0 : ∀ u : Later u3, u.at_.cell? ⟨w.heap.size, 0, none⟩ = some (.int .u64 (Oct.word s 0 : Nat)) := fun u => (HS3.out.later u.below).cells.1
  have t1 : ∀ u : Later u3, u.at_.cell? ⟨w.heap.size, 1, none⟩ = some (.int .u64 (Oct.word s 1 : Nat)) := fun u => (HS3.out.later u.below).cells.2.1
  have t2 : ∀ u : Later u3, u.at_.cell? ⟨w.heap.size, 2, none⟩ = some (.int .u64 (Oct.word s 2 : Nat)) := fun u => (HS3.out.later u.below).cells.2.2.1
  have t3 : ∀ u : Later u3, u.at_.cell? ⟨w.heap.size, 3, none⟩ = some (.int .u64 (Oct.word s 3 : Nat)) := fun u => (HS3.out.later u.below).cells.2.2.2
  have HCO : Hid (∀ v, Calls Try.prog 14 #[.agg #[.int .u64 (Oct.word s 0 : Nat), .int .u64 (Oct.word s 1 : Nat), .int .u64 (Oct.word s 2 : Nat), .int .u64 (Oct.word s 3 : Nat)]] v fun e w' => e = .returned (.int .i64 (Oct.count s 256 : Nat)) ∧ Below v.heap.size v w') := fun v => count_any s v
  have HRC : Hid (∀ v, Calls Try.prog 15 #[.agg #[.int .u64 (Oct.word s 0 : Nat), .int .u64 (Oct.word s 1 : Nat), .int .u64 (Oct.word s 2 : Nat), .int .u64 (Oct.word s 3 : Nat)]] v fun e w' => e = .returned (.int .i64 (Oct.count s 256 : Nat)) ∧ Below v.heap.size v w') := fun v => rcount_any s v
  obtain ⟨N0, hN0⟩ : ∃ N0, N0 = Oct.count s 256 := ⟨_, rfl⟩
  rw [← hN0] at HCO HRC
  clear hN0
  go_cut [22] from 14 to 22 (fun b wx => b = .bool false ∧ Hid (Below u3.heap.size u3 wx))
  case first =>
    refine wp_region_later (by kernel_rfl) (by kernel_rfl) ?_
    repeat (first
      | go_big_quiet_step (first | (go_at_call 8; exact calls_later (known_any _)) | (go_at_call 14; exact calls_later (HCO.out _)) | (go_at_call 15; exact calls_later (HRC.out _)))
      | quiet_step (first | (go_at_call 8; exact calls_later (known_any _)) | (go_at_call 14; exact calls_later (HCO.out _)) | (go_at_call 15; exact calls_later (HRC.out _))))
    refine wpQuiet_nil ?_
    intro _ hw'
    obtain ⟨u, hw''⟩ := hw'
    subst hw''
    go_wp2_with fail
    go_meet
    case rel => exact ⟨rfl, u.below⟩
  case rest =>
  obtain ⟨rfl, k⟩ := hcut
  obtain ⟨u4, hu4⟩ : ∃ u4, u4 = wc := ⟨_, rfl⟩
  rw [← hu4] at k ⊢
  have HK4 : Hid (Below u3.heap.size u3 u4) := k.out
  clear hu4 k HCO HRC t0 t1 t2 t3 hne
  go_wp2_with fail
  go_loopw [5] (fun i u => ∃ k : Nat, k ≤ 256 ∧ i = .int .i64 k ∧ Hid (Below u3.heap.size u3 u)) (fun i _ => 256 - (intOf i).toNat)
  case atStart => exact ⟨0, Nat.zero_le _, rfl, HK4⟩
  case round =>
    clear HK4
    obtain ⟨k, hk, rfl, hbb⟩ := hrel
    by_cases hlt : k < 256
    · have hne : Nonempty (Later wr) := ⟨⟨wr, Below.refl _ _⟩⟩
      have t0 : ∀ u : Later wr, u.at_.cell? ⟨w.heap.size, 0, none⟩ = some (.int .u64 (Oct.word s 0 : Nat)) := fun u => ((HS3.out.later hbb.out).later u.below).cells.1
      have t1 : ∀ u : Later wr, u.at_.cell? ⟨w.heap.size, 1, none⟩ = some (.int .u64 (Oct.word s 1 : Nat)) := fun u => ((HS3.out.later hbb.out).later u.below).cells.2.1
      have t2 : ∀ u : Later wr, u.at_.cell? ⟨w.heap.size, 2, none⟩ = some (.int .u64 (Oct.word s 2 : Nat)) := fun u => ((HS3.out.later hbb.out).later u.below).cells.2.2.1
      have t3 : ∀ u : Later wr, u.at_.cell? ⟨w.heap.size, 3, none⟩ = some (.int .u64 (Oct.word s 3 : Nat)) := fun u => ((HS3.out.later hbb.out).later u.below).cells.2.2.2
      have HHA : Hid (∀ v, Calls Try.prog 11 #[.agg #[.int .u64 (Oct.word s 0 : Nat), .int .u64 (Oct.word s 1 : Nat), .int .u64 (Oct.word s 2 : Nat), .int .u64 (Oct.word s 3 : Nat)], .int .u8 k] v fun e w' => e = .returned (.bool (s k)) ∧ Below v.heap.size v w') := fun v => has_any s k v hlt
      have HRH : Hid (∀ v, Calls Try.prog 16 #[.agg #[.int .u64 (Oct.word s 0 : Nat), .int .u64 (Oct.word s 1 : Nat), .int .u64 (Oct.word s 2 : Nat), .int .u64 (Oct.word s 3 : Nat)], .int .i64 k] v fun e w' => e = .returned (.bool (s k)) ∧ Below v.heap.size v w') := fun v => rhas_any s k v hlt
      obtain ⟨b, hb⟩ : ∃ b, b = s k := ⟨_, rfl⟩
      rw [← hb] at HHA HRH
      clear hb
      go_upto_region 6 with fail
      go_cut [34] from 23 to 34 (fun b wx => b = .bool false ∧ Hid (Below wr.heap.size wr wx))
      case first =>
        refine wp_region_later (by kernel_rfl) (by kernel_rfl) ?_
        repeat (first
          | go_big_quiet_step (first | (go_at_call 11; exact calls_later (HHA.out _)) | (go_at_call 16; exact calls_later (HRH.out _)))
          | quiet_step (first | (go_at_call 11; exact calls_later (HHA.out _)) | (go_at_call 16; exact calls_later (HRH.out _))))
        refine wpQuiet_nil ?_
        intro _ hw'
        obtain ⟨u, hw''⟩ := hw'
        subst hw''
        go_wp2_with fail
        go_meet
        case rel => exact ⟨rfl, u.below⟩
      case rest =>
      obtain ⟨rfl, k9⟩ := hcut
      go_wp2_with fail
      go_roundw
      case rel => exact ⟨k + 1, by omega, by go_num, below_trans hbb.out k9.out hbb.out.size⟩
      case measure => simp [intOf]; omega
    · have HK : Hid (k = 256) := by show k = 256; omega
      have HSr : Hid (SB wr w.heap.size s) := HS3.out.later hbb.out
      obtain ⟨c0, c1, c2, c3⟩ := HSr.out.cells
      go_wp2_with fail
      refine (rspans_any s _).mono ?_
      rintro e w5 ⟨v, rfl, ho5, hb5⟩
      obtain ⟨a, n, c, rfl, hn, hat⟩ := ownsP_at ho5
      obtain ⟨L, hL⟩ : ∃ L, L = refRows s 256 := ⟨_, rfl⟩
      rw [← hL] at hn hat
      have HL : Hid (L = refRows s 256) := hL
      have HN : Hid (n = L.length) := hn
      have HK5 : Hid (Below u3.heap.size u3 w5) := below_trans hbb.out hb5 hbb.out.size
      obtain ⟨w6, hw6⟩ : ∃ w6, w6 = w5.alloc (.cells #[.slice a n c] 38) := ⟨_, rfl⟩
      obtain ⟨B6, hB6⟩ : ∃ B6, B6 = w5.heap.size := ⟨_, rfl⟩
      have HB6 : Hid (u3.heap.size ≤ B6 ∧ w6.heap.size = B6 + 1) := ⟨by rw [hB6]; exact HK5.out.size, by rw [hw6, hB6]; simp⟩
      have HX6 : Hid (Boxed w6 B6 38 (.slice a n c)) := by rw [hw6, hB6]; exact Boxed.new _ _ _
      have HK6 : Hid (Below u3.heap.size u3 w6) := by rw [hw6]; exact HK5.out.alloc HK5.out.size _
      have HAT6 : Hid (PairsAt w6 a L) := by rw [hw6]; exact hat.later ((Below.refl _ _).alloc (Nat.le_refl _) _)
      have HW6 : Hid (w6 = _) := hw6
      have HBE : Hid (B6 = _) := hB6
      clear ho5 hb5 hn hL hat HK5 hw6 hB6 hbb HSr c0 c1 c2 c3
      obtain ⟨c0, c1, c2, c3⟩ := (HS3.out.later HK6.out).cells
      rw [HW6.out] at c0 c1 c2 c3
      go_wp2_with fail
      rw [← HW6.out, ← HBE.out]
      refine (spans_any s _).mono ?_
      rintro e w7 ⟨rfl, hw7⟩
      obtain ⟨A, hA⟩ : ∃ A, A = w6.heap.size := ⟨_, rfl⟩
      rw [← hA]
      have HA7 : Hid (SB w7 A s) := by rw [hw7, hA]; exact sb_new w6 s
      have HAZ : Hid (B6 < A ∧ w7.heap.size = A + 1) := ⟨by rw [hA, HB6.out.2]; omega, by rw [hw7, hA]; simp⟩
      have HK67 : Hid (Below w6.heap.size w6 w7) := by rw [hw7]; exact (Below.refl _ _).alloc (Nat.le_refl _) _
      clear hw7 hA c0 c1 c2 c3 HW6 HBE
      obtain ⟨w8, hw8⟩ : ∃ w8, w8 = w7.alloc (.cells #[.func (.func 28) #[] #[.pointer (some ⟨A, 0, none⟩)]] 29) := ⟨_, rfl⟩
      obtain ⟨B7, hB7⟩ : ∃ B7, B7 = w7.heap.size := ⟨_, rfl⟩
      have HB7 : Hid (A < B7 ∧ w8.heap.size = B7 + 1) := ⟨by rw [hB7, HAZ.out.2]; omega, by rw [hw8, hB7]; simp⟩
      have k78 : Below w7.heap.size w7 w8 := by rw [hw8]; exact (Below.refl _ _).alloc (Nat.le_refl _) _
      have HX8 : Hid (Boxed w8 B7 29 (.func (.func 28) #[] #[.pointer (some ⟨A, 0, none⟩)])) := by rw [hw8, hB7]; exact Boxed.new _ _ _
      have HK68 : Hid (Below w6.heap.size w6 w8) := below_trans HK67.out k78 HK67.out.size
      have HK8 : Hid (Below u3.heap.size u3 w8) := below_trans HK6.out HK68.out HK6.out.size
      have HA8 : Hid (SB w8 A s) := HA7.out.later k78
      have HAT8 : Hid (PairsAt w8 a L) := HAT6.out.later HK68.out
      have HY8 : Hid (Boxed w8 B6 38 (.slice a n c)) := boxed_later HX6.out HK68.out
      have HL8 : Hid (Boxed w8 (w.heap.size + 1) 3 (.int .i64 leave)) := boxed_later HL3.out HK8.out
      have HR8 : Hid (Boxed w8 (w.heap.size + 1 + 1) 4 (.bool false)) := boxed_later HR3.out HK8.out
      have HS8 : Hid (SB w8 w.heap.size s) := HS3.out.later HK8.out
      have HW8 : Hid (w8 = _) := hw8
      have HBE : Hid (B7 = _) := hB7
      clear hw8 hB7 k78 HA7 HK67 HK68 HAT6 HX6 HK6
      have x0 : w8.cell? ⟨B7, 0, none⟩ = _ := HX8.out.cell
      obtain ⟨c0, c1, c2, c3⟩ := HS8.out.cells
      have y0 : w8.cell? ⟨B6, 0, none⟩ = _ := HY8.out.cell
      have l0 : w8.cell? ⟨w.heap.size + 1, 0, none⟩ = _ := HL8.out.cell
      have ef := eql_func
      have hlen : n ≤ 257 := by have := ref_length s 256; rw [HN.out, HL.out]; omega
      go_upto_region 10 with fail
      rw [← HW8.out, ← HBE.out]
      clear HW8 HBE
      go_wp2_with fail
      refine (goes_any s a n c _ L _ HL.out HN.out HAT8.out).mono ?_
      rintro e w9 ⟨rfl, k9⟩
      have HK89 : Hid (Below w8.heap.size w8 w9) := k9
      clear k9 c0 c1 c2 c3 y0 l0 x0
      obtain ⟨c0, c1, c2, c3⟩ := (HS8.out.later HK89.out).cells
      have y0 : w9.cell? ⟨B6, 0, none⟩ = _ := (boxed_later HY8.out HK89.out).cell
      have l0 : w9.cell? ⟨w.heap.size + 1, 0, none⟩ = _ := (boxed_later HL8.out HK89.out).cell
      have x0 : w9.cell? ⟨B7, 0, none⟩ = _ := (boxed_later HX8.out HK89.out).cell
      go_wp2_with fail
      refine (goes_any s a n c _ L _ HL.out HN.out (HAT8.out.later HK89.out)).mono ?_
      rintro e w10 ⟨rfl, k10⟩
      have HK810 : Hid (Below w8.heap.size w8 w10) := below_trans HK89.out k10 HK89.out.size
      clear k10 c0 c1 c2 c3 y0 l0 x0
      obtain ⟨c0, c1, c2, c3⟩ := (HS8.out.later HK810.out).cells
      have y0 : w10.cell? ⟨B6, 0, none⟩ = _ := (boxed_later HY8.out HK810.out).cell
      have l0 : w10.cell? ⟨w.heap.size + 1, 0, none⟩ = _ := (boxed_later HL8.out HK810.out).cell
      have x0 : w10.cell? ⟨B7, 0, none⟩ = _ := (boxed_later HX8.out HK810.out).cell
      go_wp2_with fail
      refine (goes_any s a n c _ L _ HL.out HN.out (HAT8.out.later HK810.out)).mono ?_
      rintro e w11 ⟨rfl, k11⟩
      have HK811 : Hid (Below w8.heap.size w8 w11) := below_trans HK810.out k11 HK810.out.size
      clear k11 c0 c1 c2 c3 y0 l0 x0
      obtain ⟨c0, c1, c2, c3⟩ := (HS8.out.later HK811.out).cells
      have y0 : w11.cell? ⟨B6, 0, none⟩ = _ := (boxed_later HY8.out HK811.out).cell
      have l0 : w11.cell? ⟨w.heap.size + 1, 0, none⟩ = _ := (boxed_later HL8.out HK811.out).cell
      have x0 : w11.cell? ⟨B7, 0, none⟩ = _ := (boxed_later HX8.out HK811.out).cell
      obtain ⟨W0, hW0⟩ : ∃ W0, W0 = w11.alloc (.cells #[.int .i64 0] 3) := ⟨_, rfl⟩
      obtain ⟨B8, hB8⟩ : ∃ B8, B8 = w11.heap.size := ⟨_, rfl⟩
      have k0 : Below w11.heap.size w11 W0 := by rw [hW0]; exact (Below.refl _ _).alloc (Nat.le_refl _) _
      have HK80 : Hid (Below w8.heap.size w8 W0) := below_trans HK811.out k0 HK811.out.size
      have HZ : Hid (W0.heap.size = B8 + 1 ∧ w8.heap.size ≤ B8) := ⟨by rw [hW0, hB8]; simp, by rw [hB8]; exact HK811.out.size⟩
      have HI0 : Hid (Boxed W0 B8 3 (.int .i64 0)) := by rw [hW0, hB8]; exact Boxed.new _ _ _
      have HW0 : Hid (W0 = _) := hW0
      have HBE : Hid (B8 = _) := hB8
      clear hW0 hB8 k0 c0 c1 c2 c3 y0 l0
      have x1 : (w11.alloc (.cells #[.int .i64 0] 3)).cell? ⟨B7, 0, none⟩ = _ := (World.cell?_alloc_lt _ _ _ (World.block_lt_of_cell? _ _ x0)).trans x0
      clear x0
      go_wp2_with fail
      rw [← HW0.out, ← HBE.out]
      clear HW0 HBE x1
      refine (wpIn_wide (n := 9)).1 ?_
      generalize Value.bool (decide ((k : Int) < 256)) = v24
      have hsz : W0.heap.size = B8 + 1 := HZ.out.1
      have HALL : Hid (∀ W, Below B8 W0 W → Boxed W B6 38 (.slice a n c) ∧ Boxed W B7 29 (.func (.func 28) #[] #[.pointer (some ⟨A, 0, none⟩)]) ∧ Boxed W (w.heap.size + 1) 3 (.int .i64 leave) ∧ Boxed W (w.heap.size + 1 + 1) 4 (.bool false) ∧ SB W A s ∧ PairsAt W a L) := fun W hW => by
        have hz := HZ.out.2
        have h8 : Below w8.heap.size w8 W := HK80.out.trans (hW.mono hz)
        exact ⟨boxed_later HY8.out h8, boxed_later HX8.out h8, boxed_later HL8.out h8, boxed_later HR8.out h8, HA8.out.later h8, HAT8.out.later h8⟩
      have HAB : Hid (A < B8) := by have h1 := HB7.out; have h2 := HZ.out; show A < B8; omega
      have HWB : Hid (w.heap.size + 1 + 1 + 1 ≤ B8) := by have h1 := HB7.out; have h2 := HZ.out; have h3 := HAZ.out; have h4 := HB6.out; have h5 := HZ3.out; show _ ≤ _; omega
      have HBW : Hid (Below w.heap.size w W0) := below_trans HB3.out (below_trans HK8.out HK80.out HK8.out.size) HB3.out.size
      clear HK80 HZ HY8 HX8 HL8 HR8 HA8 HAT8 HS8 HK811 HK810 HK89 HK8 HB7 HAZ HB6 HS3 HL3 HR3 HB3 HZ3
      have hA := HAB.out
      refine wpIn_rangeFunc_ownH rfl (by omega) (gf := 28) (lb := #[.pointer (some ⟨A, 0, none⟩)]) rfl trivial (enters_of Try.func28 (by kernel_rfl) rfl)
        (spans_stops (9 - 1) (by omega) A B8 s W0 hA (HALL.out W0 (Below.refl _ _)).2.2.2.2.1) belowK_t (belowK_b (by omega)) (Below.refl _ _) (fun _ => rfl)
        (fun pre W => (Hid (pre.map vals <+: L) ∧ Boxed W B8 3 (.int .i64 (pre.length : Nat))) ∧ Below B8 W0 W)
        (fun c' pre _ => c' = .ret ∧ ¬ (pre.map vals <+: L))
        (OwnFrom.and (Own.from (fun s A B row hs hg hr => ⟨hs.1, hs.2.kept hg (own_ne hs.2 hr)⟩) _) (ownFrom_below (by omega) (by omega)))
        (fun _ _ _ _ _ hs _ _ => hs)
        ⟨⟨by show _ <+: _; simp, HI0.out⟩, Below.refl _ _⟩
        (fun x a' _ => a' = { tmps := #[.agg #[.int .u64 (Oct.word s 0 : Nat), .int .u64 (Oct.word s 1 : Nat), .int .u64 (Oct.word s 2 : Nat), .int .u64 (Oct.word s 3 : Nat)], .int .i64 leave, .pointer (some ⟨w.heap.size, 0, none⟩), .pointer (some ⟨w.heap.size + 1, 0, none⟩), .pointer (some ⟨w.heap.size + 1 + 1, 0, none⟩), .int .i64 (k : Nat), .pointer (some ⟨B6, 0, none⟩), .pointer (some ⟨B7, 0, none⟩), .pointer (some ⟨B8, 0, none⟩), .int .u8 (x.1.val : Nat), .int .u8 (x.2.val : Nat), undef, undef, undef, u14, u15, u16, u17, u18, u19, u20, u21, .bool false, .int .i64 (k : Nat), v24, u25, u26, u27, u28, u29, u30, u31, u32, u33, u34, .agg #[.int .u64 (Oct.word s 0 : Nat), .int .u64 (Oct.word s 1 : Nat), .int .u64 (Oct.word s 2 : Nat), .int .u64 (Oct.word s 3 : Nat)], .slice a n c, .agg #[.int .u64 (Oct.word s 0 : Nat), .int .u64 (Oct.word s 1 : Nat), .int .u64 (Oct.word s 2 : Nat), .int .u64 (Oct.word s 3 : Nat)], .func (.func 28) #[] #[.pointer (some ⟨A, 0, none⟩)], .func (.func 28) #[] #[.pointer (some ⟨A, 0, none⟩)], .bool false, .bool false, .agg #[.int .u64 (Oct.word s 0 : Nat), .int .u64 (Oct.word s 1 : Nat), .int .u64 (Oct.word s 2 : Nat), .int .u64 (Oct.word s 3 : Nat)], .slice a n c, .slice a n c, .int .i64 (n : Nat), .int .i64 ((n : Int) + 1), .bool true, .bool false, .bool false, .bool false, .agg #[.int .u64 (Oct.word s 0 : Nat), .int .u64 (Oct.word s 1 : Nat), .int .u64 (Oct.word s 2 : Nat), .int .u64 (Oct.word s 3 : Nat)], .slice a n c, .int .i64 leave, .bool true, .bool false, .bool false, .bool false, .agg #[.int .u64 (Oct.word s 0 : Nat), .int .u64 (Oct.word s 1 : Nat), .int .u64 (Oct.word s 2 : Nat), .int .u64 (Oct.word s 3 : Nat)], .slice a n c, .slice a n c, .int .i64 (n : Nat), .int .i64 ((n : Int) + 1), .bool true, .bool false, .bool false, .func (.func 28) #[] #[.pointer (some ⟨A, 0, none⟩)], .int .u8 (x.1.val : Nat), .int .u8 (x.2.val : Nat), undef, undef, undef, undef, undef, undef, undef, undef, undef, undef, undef, undef, undef, undef, undef, undef, undef, undef, undef, undef, undef, undef, undef, undef, undef, undef, undef, undef, undef, undef, undef, undef, undef, undef, undef, undef, undef, undef, undef, undef, undef, undef, undef, undef, undef, undef, undef, undef, undef, undef, undef, undef, undef, undef, undef, undef, undef, undef, undef, undef, undef, undef, undef, undef, undef, undef, undef, undef, undef, undef, undef, undef, undef], defers := [] })
        (fun _ _ _ _ _ _ hs _ _ => hs)
        ?assign ?body ?done ?stop
      case assign =>
        rintro l pre x W K hi hK
        gi_wp2
        exact hK _ _ (KeepsFrom.refl _ _) (Below.refl _ _) hi rfl
      case body =>
        rintro l pre x a' W hl ⟨r, hr⟩ ⟨⟨hm, b8⟩, hB⟩ rfl _
        obtain ⟨bY, bX, bL, bR, bA, hAT⟩ := HALL.out W hB
        obtain ⟨i, hi⟩ : ∃ i, i = pre.length := ⟨_, rfl⟩
        have HIi : Hid (i = pre.length) := hi
        rw [← hi] at b8
        have hile : i ≤ n := by have := hm.out.length_le; rw [List.length_map] at this; rw [HN.out, hi]; exact this
        clear hi
        have HATi : Hid (PairsAt W a L) := hAT
        have y0 : W.cell? ⟨B6, 0, none⟩ = _ := bY.cell
        have x0 : W.cell? ⟨B7, 0, none⟩ = _ := bX.cell
        have l0 : W.cell? ⟨w.heap.size + 1, 0, none⟩ = _ := bL.cell
        have r0 : W.cell? ⟨w.heap.size + 1 + 1, 0, none⟩ = _ := bR.cell
        have rf : W.frozen? ⟨w.heap.size + 1 + 1, 0, none⟩ = _ := bR.frozen
        have c8 : W.cell? ⟨B8, 0, none⟩ = _ := b8.cell
        have f8 : W.frozen? ⟨B8, 0, none⟩ = _ := b8.frozen
        have lt6 : B6 < W.heap.size := World.block_lt_of_cell? W _ y0
        have lt7 : B7 < W.heap.size := World.block_lt_of_cell? W _ x0
        have lt8 : B8 < W.heap.size := World.block_lt_of_cell? W _ c8
        have ltl : w.heap.size + 1 < W.heap.size := World.block_lt_of_cell? W _ l0
        clear hAT bY bX bL bR bA
        by_cases hlti : i < n
        · have hiL : i < L.length := by rw [← HN.out]; exact hlti
          obtain ⟨yi, hyi⟩ : ∃ y, L[i]? = some y := ⟨_, List.getElem?_eq_getElem hiL⟩
          have HPREi : Hid (((pre ++ [x]).map vals <+: L) ↔ vals x = yi) := prefix_snoc hm.out (by rw [List.length_map, ← HIi.out]; exact hyi)
          rcases HATi.out with hnil | ⟨gi, hai, hcellsi⟩
          · rw [hnil] at hiL; simp at hiL
          · subst hai
            obtain ⟨q0i, q1i⟩ := hcellsi i yi hyi
            clear hcellsi hyi hiL HATi
            have hi0i : (0 : Int) ≤ (i : Int) := by omega
            have hi1i : (i : Int) < (n : Int) := by omega
            by_cases e0 : x.1.val = yi.1
            · by_cases e1 : x.2.val = yi.2
              · have HTi : Hid ((pre ++ [x]).map vals <+: L) := HPREi.out.2 (by simp [vals, e0, e1])
                have i0i : ((x.1.val : Int) == (yi.1 : Int)) = true := by simp [e0]
                have i1i : ((x.2.val : Int) == (yi.2 : Int)) = true := by simp [e1]
                clear HPREi
                by_cases h3 : i < 3
                · have h3' : (i : Int) < 3 := by omega
                  gi_wp2
                  generalize Value.bool (decide (n ≤ i)) = vb
                  obtain ⟨W1, hW1⟩ : ∃ W1, W1 = W.alloc (.cells #[.int .i64 0] 3) := ⟨_, rfl⟩
                  obtain ⟨B11, hB11⟩ : ∃ B11, B11 = W.heap.size := ⟨_, rfl⟩
                  have b11 : Boxed W1 B11 3 (.int .i64 0) := by rw [hW1, hB11]; exact Boxed.new _ _ _
                  have hk1 : Below W.heap.size W W1 := by rw [hW1]; exact (Below.refl _ _).alloc (Nat.le_refl _) _
                  have hz1 : W1.heap.size = W.heap.size + 1 := by rw [hW1]; simp
                  have hr' : W1.heap[l]? = some (.loop r) := (hk1.block l (Array.getElem?_eq_some_iff.1 hr).1).trans hr
                  have hkf1 : KeepsFrom W0.heap.size W W1 := by rw [hW1]; exact (KeepsOthers.alloc _ _).from _
                  rw [← hW1, ← hB11]
                  have HE11 : Hid (B11 = W.heap.size) := hB11
                  have n1 : ¬ (w.heap.size + 1 = B11) := by omega
                  have n2 : ¬ (B8 = B11) := by omega
                  have n3 : ¬ (B6 = B11) := by omega
                  have n4 : ¬ (B11 = w.heap.size + 1) := by omega
                  clear hW1 hB11 y0 x0 l0 r0 rf c8 f8 q0i q1i
                  have hsb1 := (HALL.out W1 (hB.trans (hk1.mono (Nat.le_of_lt lt8)))).2.2.2.2.1
                  have hAW : A < W.heap.size := by omega
                  refine wpIn_rangeFunc_ownN (l₀ := l) (r₀ := r) rfl hr' (by omega) (gf := 28) (lb := #[.pointer (some ⟨A, 0, none⟩)]) rfl trivial (enters_of Try.func28 (by kernel_rfl) rfl)
                    ((spans_stops (9 - 1 - 1 - 1) (by omega) A W.heap.size s W1 hAW hsb1).inRound l) belowK_t (belowK_b (by omega)) (Below.refl _ _) (fun _ => rfl)
                    (fun pre' W' => (Hid (pre'.map vals <+: L) ∧ Boxed W' B11 3 (.int .i64 (pre'.length : Nat))) ∧ (Below W.heap.size W W' ∧ KeepsFrom W0.heap.size W W'))
                    (fun c' pre' W' => (c' = .ret ∧ ¬ (pre'.map vals <+: L)) ∨ (c' = .exit 4 ∧ (∃ m : Nat, leave < (m : Int) ∧ Boxed W' B11 3 (.int .i64 (m : Nat))) ∧ (Below W.heap.size W W' ∧ KeepsFrom W0.heap.size W W')))
                    (OwnFrom.and (Own.from (fun s A B row hs hg hr => ⟨hs.1, hs.2.kept hg (own_ne hs.2 hr)⟩) _) (OwnFrom.and (ownFrom_below (Nat.le_refl _) (by omega)) (ownFrom_keepsFrom (by omega))))
                    (fun c' pre' X Y row hs hg hr => hs.imp id (fun ⟨e, ⟨m, hm, hb⟩, hBel, hKF⟩ => ⟨e, ⟨m, hm, hb.kept hg (own_ne hb (fun r e => (hr r e).2))⟩, ownFrom_below (β := Unit) (Nat.le_refl _) (by omega) () X Y row hBel hg hr, ownFrom_keepsFrom (β := Unit) (by omega) () X Y row hKF hg hr⟩))
                    ⟨⟨by show _ <+: _; simp, b11⟩, hk1, hkf1⟩
                    (fun y a'' _ => a'' = { tmps := #[.agg #[.int .u64 (Oct.word s 0 : Nat), .int .u64 (Oct.word s 1 : Nat), .int .u64 (Oct.word s 2 : Nat), .int .u64 (Oct.word s 3 : Nat)], .int .i64 leave, .pointer (some ⟨w.heap.size, 0, none⟩), .pointer (some ⟨w.heap.size + 1, 0, none⟩), .pointer (some ⟨w.heap.size + 1 + 1, 0, none⟩), .int .i64 (k : Nat), .pointer (some ⟨B6, 0, none⟩), .pointer (some ⟨B7, 0, none⟩), .pointer (some ⟨B8, 0, none⟩), .int .u8 (yi.1 : Nat), .int .u8 (yi.2 : Nat), .pointer (some ⟨B11, 0, none⟩), .int .u8 (y.1.val : Nat), .int .u8 (y.2.val : Nat), u14, u15, u16, u17, u18, u19, u20, u21, .bool false, .int .i64 (k : Nat), v24, u25, u26, u27, u28, u29, u30, u31, u32, u33, u34, .agg #[.int .u64 (Oct.word s 0 : Nat), .int .u64 (Oct.word s 1 : Nat), .int .u64 (Oct.word s 2 : Nat), .int .u64 (Oct.word s 3 : Nat)], .slice (some ⟨gi, 0, none⟩) n c, .agg #[.int .u64 (Oct.word s 0 : Nat), .int .u64 (Oct.word s 1 : Nat), .int .u64 (Oct.word s 2 : Nat), .int .u64 (Oct.word s 3 : Nat)], .func (.func 28) #[] #[.pointer (some ⟨A, 0, none⟩)], .func (.func 28) #[] #[.pointer (some ⟨A, 0, none⟩)], .bool false, .bool false, .agg #[.int .u64 (Oct.word s 0 : Nat), .int .u64 (Oct.word s 1 : Nat), .int .u64 (Oct.word s 2 : Nat), .int .u64 (Oct.word s 3 : Nat)], .slice (some ⟨gi, 0, none⟩) n c, .slice (some ⟨gi, 0, none⟩) n c, .int .i64 (n : Nat), .int .i64 ((n : Int) + 1), .bool true, .bool false, .bool false, .bool false, .agg #[.int .u64 (Oct.word s 0 : Nat), .int .u64 (Oct.word s 1 : Nat), .int .u64 (Oct.word s 2 : Nat), .int .u64 (Oct.word s 3 : Nat)], .slice (some ⟨gi, 0, none⟩) n c, .int .i64 leave, .bool true, .bool false, .bool false, .bool false, .agg #[.int .u64 (Oct.word s 0 : Nat), .int .u64 (Oct.word s 1 : Nat), .int .u64 (Oct.word s 2 : Nat), .int .u64 (Oct.word s 3 : Nat)], .slice (some ⟨gi, 0, none⟩) n c, .slice (some ⟨gi, 0, none⟩) n c, .int .i64 (n : Nat), .int .i64 ((n : Int) + 1), .bool true, .bool false, .bool false, .func (.func 28) #[] #[.pointer (some ⟨A, 0, none⟩)], .int .u8 (yi.1 : Nat), .int .u8 (yi.2 : Nat), .int .i64 (i : Nat), .slice (some ⟨gi, 0, none⟩) n c, .int .i64 (n : Nat), vb, vb, .int .u8 (yi.1 : Nat), .int .i64 (yi.1 : Nat), .slice (some ⟨gi, 0, none⟩) n c, .int .i64 (i : Nat), .pointer (some ⟨gi, i * 2, none⟩), .pointer (some ⟨gi, i * 2, none⟩), .int .i64 (yi.1 : Nat), .bool false, vb, vb, .int .u8 (yi.2 : Nat), .int .i64 (yi.2 : Nat), .slice (some ⟨gi, 0, none⟩) n c, .int .i64 (i : Nat), .pointer (some ⟨gi, i * 2, none⟩), .pointer (some ⟨gi, i * 2 + 1, none⟩), .int .i64 (yi.2 : Nat), .bool false, vb, .int .i64 (i : Nat), .bool true, .func (.func 28) #[] #[.pointer (some ⟨A, 0, none⟩)], .int .u8 (y.1.val : Nat), .int .u8 (y.2.val : Nat), undef, undef, undef, undef, undef, undef, undef, undef, undef, undef, undef, undef, undef, undef, undef, undef, undef, undef, undef, undef, undef, undef, undef, undef, undef, undef, undef, undef, undef, undef, undef, undef, undef, undef, undef, undef, undef, undef, undef, undef, undef, undef, undef, undef], defers := [] })
                    (fun _ _ _ _ _ _ hs _ _ => hs)
                    ?assign2 ?body2 ?done2 ?stop2
                  case assign2 =>
                    rintro l2 pre' y W' K hi hK
                    gi_wp2
                    exact hK _ _ (KeepsFrom.refl _ _) (Below.refl _ _) hi rfl
                  case body2 =>
                    rintro l2 pre' y a'' W' _ _ ⟨⟨hm', b11'⟩, hBW, hKF⟩ rfl _
                    have HBB : Hid (Below B8 W0 W') := hB.trans (hBW.mono (Nat.le_of_lt lt8))
                    obtain ⟨bY, bX, bL, bR, bA, hAT⟩ := HALL.out W' HBB.out
                    have y0 : W'.cell? ⟨B6, 0, none⟩ = _ := bY.cell
                    have l0 : W'.cell? ⟨w.heap.size + 1, 0, none⟩ = _ := bL.cell
                    have r0 : W'.cell? ⟨w.heap.size + 1 + 1, 0, none⟩ = _ := bR.cell
                    have rf : W'.frozen? ⟨w.heap.size + 1 + 1, 0, none⟩ = _ := bR.frozen
                    have HB8' : Hid (Boxed W' B8 3 (.int .i64 (i : Nat))) := (hBW.block B8 lt8).trans b8
                    have c8 : W'.cell? ⟨B8, 0, none⟩ = _ := HB8'.out.cell
                    have f8 : W'.frozen? ⟨B8, 0, none⟩ = _ := HB8'.out.frozen
                    obtain ⟨j, hj⟩ : ∃ j, j = pre'.length := ⟨_, rfl⟩
                    have HIj : Hid (j = pre'.length) := hj
                    rw [← hj] at b11'
                    have hjle : j ≤ n := by have := hm'.out.length_le; rw [List.length_map] at this; rw [HN.out, hj]; exact this
                    clear hj
                    have HATj : Hid (PairsAt W' _ L) := hAT
                    have HB11 : Hid (Boxed W' B11 3 (.int .i64 (j : Nat))) := b11'
                    have c11 : W'.cell? ⟨B11, 0, none⟩ = _ := HB11.out.cell
                    have f11 : W'.frozen? ⟨B11, 0, none⟩ = _ := HB11.out.frozen
                    clear hAT bY bX bL bR bA b11'
                    by_cases hltj : j < n
                    · have hiL : j < L.length := by rw [← HN.out]; exact hltj
                      obtain ⟨yj, hyj⟩ : ∃ y, L[j]? = some y := ⟨_, List.getElem?_eq_getElem hiL⟩
                      have HPREj : Hid (((pre' ++ [y]).map vals <+: L) ↔ vals y = yj) := prefix_snoc hm'.out (by rw [List.length_map, ← HIj.out]; exact hyj)
                      rcases HATj.out with hnil | ⟨gj, haj, hcellsj⟩
                      · rw [hnil] at hiL; simp at hiL
                      · obtain rfl : gj = gi := by injection haj with h1; injection h1 with h2; exact h2.symm
                        obtain ⟨q0j, q1j⟩ := hcellsj j yj hyj
                        clear hcellsj hyj hiL HATj
                        have hi0j : (0 : Int) ≤ (j : Int) := by omega
                        have hi1j : (j : Int) < (n : Int) := by omega
                        by_cases e0 : y.1.val = yj.1
                        · by_cases e1 : y.2.val = yj.2
                          · have HTj : Hid ((pre' ++ [y]).map vals <+: L) := HPREj.out.2 (by simp [vals, e0, e1])
                            have i0j : ((y.1.val : Int) == (yj.1 : Int)) = true := by simp [e0]
                            have i1j : ((y.2.val : Int) == (yj.2 : Int)) = true := by simp [e1]
                            clear HPREj
                            by_cases hle : leave < (j : Int) + 1
                            · gi_wp2
                              exact ⟨(KeepsOthers.setCell _ _ _).from _, .inr ⟨rfl, ⟨j + 1, by omega, by have h := HB11.out.set (.int .i64 ((j : Int) + 1)); exact h⟩, hBW.setCell (p := ⟨B11, 0, none⟩) (by have := HE11.out; simp; omega) _, (by rw [← hsz]; exact hKF.trans ((KeepsOthers.setCell _ _ _).from _))⟩⟩
                            · gi_wp2
                              exact ⟨(KeepsOthers.setCell _ _ _).from _, (Below.refl _ W').setCell (p := ⟨B11, 0, none⟩) (by have := HE11.out; simp; omega) _, ⟨HTj, by
                                have h := HB11.out.set (.int .i64 ((j : Int) + 1))
                                have e : ((j : Int) + 1) = (((pre' ++ [y]).length : Nat) : Int) := by rw [HIj.out]; simp
                                rw [e] at h ⊢
                                exact h⟩, hBW.setCell (p := ⟨B11, 0, none⟩) (by have := HE11.out; simp; omega) _, (by rw [← hsz]; exact hKF.trans ((KeepsOthers.setCell _ _ _).from _))⟩
                          · have i0 : ((y.1.val : Int) == (yj.1 : Int)) = true := by simp [e0]
                            have i1 : ((y.2.val : Int) == (yj.2 : Int)) = false := by simp; omega
                            have i2 : ¬ (y.2.val : Int) = (yj.2 : Int) := by omega
                            have i3 : ((y.2.val : Int) != (yj.2 : Int)) = true := by simp; omega
                            have HBAD : Hid (¬ ((pre' ++ [y]).map vals <+: L)) := by show ¬ _; rw [HPREj.out]; intro e; exact e1 (by rw [← e]; rfl)
                            clear HPREj
                            gi_wp2
                            exact ⟨(KeepsOthers.setCell _ _ _).from _, .inl ⟨rfl, HBAD.out⟩⟩
                        · have i0 : ((y.1.val : Int) == (yj.1 : Int)) = false := by simp; omega
                          have i2 : ¬ (y.1.val : Int) = (yj.1 : Int) := by omega
                          have HBAD : Hid (¬ ((pre' ++ [y]).map vals <+: L)) := by show ¬ _; rw [HPREj.out]; intro e; exact e0 (by rw [← e]; rfl)
                          clear HPREj
                          gi_wp2
                          exact ⟨(KeepsOthers.setCell _ _ _).from _, .inl ⟨rfl, HBAD.out⟩⟩
                    · have hge : (n : Int) ≤ (j : Int) := by omega
                      have HBAD : Hid (¬ ((pre' ++ [y]).map vals <+: L)) := by
                        intro h
                        have := h.length_le
                        rw [List.length_map, List.length_append, ← HIj.out, ← HN.out] at this
                        simp at this
                        omega
                      gi_wp2
                      exact ⟨(KeepsOthers.setCell _ _ _).from _, .inl ⟨rfl, HBAD.out⟩⟩
                  case done2 =>
                    rintro ys W' hys ⟨⟨hm', b11'⟩, hBW, hKF⟩
                    have hlen2 : ys.length = n := by rw [hys, HN.out, HL.out, ← rows_ref, List.length_map]
                    clear hys
                    rw [hlen2] at b11'
                    have HBB : Hid (Below B8 W0 W') := hB.trans (hBW.mono (Nat.le_of_lt lt8))
                    obtain ⟨bY, bX, bL, bR, bA, hAT⟩ := HALL.out W' HBB.out
                    have y0 : W'.cell? ⟨B6, 0, none⟩ = _ := bY.cell
                    have l0 : W'.cell? ⟨w.heap.size + 1, 0, none⟩ = _ := bL.cell
                    have r0 : W'.cell? ⟨w.heap.size + 1 + 1, 0, none⟩ = _ := bR.cell
                    have rf : W'.frozen? ⟨w.heap.size + 1 + 1, 0, none⟩ = _ := bR.frozen
                    have HB8' : Hid (Boxed W' B8 3 (.int .i64 (i : Nat))) := (hBW.block B8 lt8).trans b8
                    have c8 : W'.cell? ⟨B8, 0, none⟩ = _ := HB8'.out.cell
                    have f8 : W'.frozen? ⟨B8, 0, none⟩ = _ := HB8'.out.frozen
                    have c11 : W'.cell? ⟨B11, 0, none⟩ = _ := b11'.cell
                    clear hAT bY bX bL bR bA
                    gi_wp2
                    exact ⟨hKF.trans ((KeepsOthers.setCell _ _ _).from _), (hBW.mono (Nat.le_of_lt lt8)).setCell (p := ⟨B8, 0, none⟩) (Nat.le_refl _) _, ⟨HTi, by
                      have h := HB8'.out.set (.int .i64 ((i : Int) + 1))
                      have e : ((i : Int) + 1) = (((pre ++ [x]).length : Nat) : Int) := by rw [HIi.out]; simp
                      rw [e] at h ⊢
                      exact h⟩, (hB.trans (hBW.mono (Nat.le_of_lt lt8))).setCell (p := ⟨B8, 0, none⟩) (Nat.le_refl _) _⟩
                  case stop2 =>
                    rintro c' pre' W' ⟨k', hk', hpre⟩ (⟨rfl, hx⟩ | ⟨rfl, ⟨m, hm, b11'⟩, hBW, hKF⟩)
                    · exact absurd (by rw [hpre, HL.out]; exact rows_vals s k' hk') hx
                    · clear hpre
                      have HBB : Hid (Below B8 W0 W') := hB.trans (hBW.mono (Nat.le_of_lt lt8))
                      obtain ⟨bY, bX, bL, bR, bA, hAT⟩ := HALL.out W' HBB.out
                      have y0 : W'.cell? ⟨B6, 0, none⟩ = _ := bY.cell
                      have l0 : W'.cell? ⟨w.heap.size + 1, 0, none⟩ = _ := bL.cell
                      have r0 : W'.cell? ⟨w.heap.size + 1 + 1, 0, none⟩ = _ := bR.cell
                      have rf : W'.frozen? ⟨w.heap.size + 1 + 1, 0, none⟩ = _ := bR.frozen
                      have HB8' : Hid (Boxed W' B8 3 (.int .i64 (i : Nat))) := (hBW.block B8 lt8).trans b8
                      have c8 : W'.cell? ⟨B8, 0, none⟩ = _ := HB8'.out.cell
                      have f8 : W'.frozen? ⟨B8, 0, none⟩ = _ := HB8'.out.frozen
                      have c11 : W'.cell? ⟨B11, 0, none⟩ = _ := b11'.cell
                      clear hAT bY bX bL bR bA
                      by_cases hmn : m = n
                      · subst hmn
                        gi_wp2
                        exact ⟨hKF.trans ((KeepsOthers.setCell _ _ _).from _), (hBW.mono (Nat.le_of_lt lt8)).setCell (p := ⟨B8, 0, none⟩) (Nat.le_refl _) _, ⟨HTi, by
                          have h := HB8'.out.set (.int .i64 ((i : Int) + 1))
                          have e : ((i : Int) + 1) = (((pre ++ [x]).length : Nat) : Int) := by rw [HIi.out]; simp
                          rw [e] at h ⊢
                          exact h⟩, (hB.trans (hBW.mono (Nat.le_of_lt lt8))).setCell (p := ⟨B8, 0, none⟩) (Nat.le_refl _) _⟩
                      · have hmn' : ¬ (m : Int) = (n : Int) := by omega
                        gi_wp2
                        exact ⟨hKF.trans ((KeepsOthers.setCell _ _ _).from _), (hBW.mono (Nat.le_of_lt lt8)).setCell (p := ⟨B8, 0, none⟩) (Nat.le_refl _) _, ⟨HTi, by
                          have h := HB8'.out.set (.int .i64 ((i : Int) + 1))
                          have e : ((i : Int) + 1) = (((pre ++ [x]).length : Nat) : Int) := by rw [HIi.out]; simp
                          rw [e] at h ⊢
                          exact h⟩, (hB.trans (hBW.mono (Nat.le_of_lt lt8))).setCell (p := ⟨B8, 0, none⟩) (Nat.le_refl _) _⟩
                · have h3' : (3 : Int) ≤ (i : Int) := by omega
                  gi_wp2
                  exact ⟨(KeepsOthers.setCell _ _ _).from _, (Below.refl _ W).setCell (p := ⟨B8, 0, none⟩) (Nat.le_refl _) _, ⟨HTi, by
                    have h := b8.set (.int .i64 ((i : Int) + 1))
                    have e : ((i : Int) + 1) = (((pre ++ [x]).length : Nat) : Int) := by rw [HIi.out]; simp
                    rw [e] at h ⊢
                    exact h⟩, hB.setCell (p := ⟨B8, 0, none⟩) (Nat.le_refl _) _⟩
              · have i0 : ((x.1.val : Int) == (yi.1 : Int)) = true := by simp [e0]
                have i1 : ((x.2.val : Int) == (yi.2 : Int)) = false := by simp; omega
                have i2 : ¬ (x.2.val : Int) = (yi.2 : Int) := by omega
                have i3 : ((x.2.val : Int) != (yi.2 : Int)) = true := by simp; omega
                have HBAD : Hid (¬ ((pre ++ [x]).map vals <+: L)) := by show ¬ _; rw [HPREi.out]; intro e; exact e1 (by rw [← e]; rfl)
                clear HPREi
                gi_wp2
                exact ⟨(KeepsOthers.setCell _ _ _).from _, rfl, HBAD.out⟩
            · have i0 : ((x.1.val : Int) == (yi.1 : Int)) = false := by simp; omega
              have i2 : ¬ (x.1.val : Int) = (yi.1 : Int) := by omega
              have HBAD : Hid (¬ ((pre ++ [x]).map vals <+: L)) := by show ¬ _; rw [HPREi.out]; intro e; exact e0 (by rw [← e]; rfl)
              clear HPREi
              gi_wp2
              exact ⟨(KeepsOthers.setCell _ _ _).from _, rfl, HBAD.out⟩
        · have hge : (n : Int) ≤ (i : Int) := by omega
          have HBAD : Hid (¬ ((pre ++ [x]).map vals <+: L)) := by
            intro h
            have := h.length_le
            rw [List.length_map, List.length_append, ← HIi.out, ← HN.out] at this
            simp at this
            omega
          gi_wp2
          exact ⟨(KeepsOthers.setCell _ _ _).from _, rfl, HBAD.out⟩
      case done =>
        rintro D ys W hD hys ⟨⟨hm, b8⟩, hB⟩ hK
        have hlen2 : ys.length = n := by rw [hys, HN.out, HL.out, ← rows_ref, List.length_map]
        clear hys
        rw [hlen2] at b8
        obtain ⟨bY, bX, bL, bR, bA, hAT⟩ := HALL.out W hB
        have y0 : W.cell? ⟨B6, 0, none⟩ = _ := bY.cell
        have c8 : W.cell? ⟨B8, 0, none⟩ = _ := b8.cell
        have r0 : W.cell? ⟨w.heap.size + 1 + 1, 0, none⟩ = _ := bR.cell
        have rf : W.frozen? ⟨w.heap.size + 1 + 1, 0, none⟩ = _ := bR.frozen
        have HBR : Hid (Boxed W (w.heap.size + 1 + 1) 4 (.bool false)) := bR
        have HBD : Hid (Below w.heap.size w W) := HBW.out.trans (hB.mono (by have := HWB.out; omega))
        clear bY bX bL bR bA hAT
        go_wp2
        have hK' := (KeepsOthers.setCell W ⟨w.heap.size + 1 + 1, 0, none⟩ (.bool true)).same D _ hK rfl
        refine ⟨by simp, .inl ⟨_, _, rfl, run_takeDeferred hK', ?_⟩⟩
        have hc5 := cell_kept (HBR.out.set (.bool true)).cell (grownBy_putObj' _ D (.deferred none)) (fun r e => by cases e; exact ⟨_, hK', rfl⟩)
        refine ⟨.bool true, ?_, rfl, (HBD.out.setCell (p := ⟨w.heap.size + 1 + 1, 0, none⟩) (by simp; omega) _).trans (belowK_b (w := w) (Nat.le_refl _) _ D _ _ (by have := HBW.out.size; omega) hK' rfl rfl)⟩
        simp [results, Try.results4, go_sem, hc5]
      case stop =>
        rintro D c' pre W hD ⟨k', hk', hpre⟩ ⟨rfl, hx⟩ hK
        exact absurd (by rw [hpre, HL.out]; exact rows_vals s k' hk') hx
end Go.Proofs.Ytkgpmaclaahmbaa
