/- The document's piece of layer 4. -/
import Derived.Test.YtlcnmfgmgiijpaaG45
import Derived.Test.YtlcnmfgmgiijpaaG14
import Derived.Test.YtlcnmfgmgiijpaaG44
import Derived.Test.YtlcnmfgmgiijpaaG42
namespace Go.Proofs.Ytlcnmfgmgiijpaa
open Go.RowKit
attribute [local go_sem ↓] Go.wp_at_zero Go.wp_at_succ

/-- what a call of a method left, and the node that it answered in a block of its own -/
theorem Ps.box {w : World} {s : ByteArray} {b0 B R d : Nat} {u : World} {i e a : Nat} (h : Ps w s b0 B R d u i (.slice none 0 0) [] e a) (x : Nd) : Ps w s b0 B R d (u.alloc (.cells #[.int .i64 x.k, .int .u64 (Oct.word x.s 0 : Nat), .int .u64 (Oct.word x.s 1 : Nat), .int .u64 (Oct.word x.s 2 : Nat), .int .u64 (Oct.word x.s 3 : Nat), .slice x.a x.n x.c, .int .i64 x.mn, .int .i64 x.mx] 28)) i (.slice none 0 0) [] e a ∧ NB (u.alloc (.cells #[.int .i64 x.k, .int .u64 (Oct.word x.s 0 : Nat), .int .u64 (Oct.word x.s 1 : Nat), .int .u64 (Oct.word x.s 2 : Nat), .int .u64 (Oct.word x.s 3 : Nat), .slice x.a x.n x.c, .int .i64 x.mn, .int .i64 x.mx] 28)) u.heap.size x :=
  ⟨h.later ((Below.refl _ _).alloc (Nat.le_refl _) _), nb_new u x⟩
theorem Ps.fin {w : World} {s : ByteArray} {b0 B R d d0 : Nat} {u : World} {i : Nat} (h : Ps w s b0 B R d u i (.slice none 0 0) [] 0 0) {r : Rs Tr} {t : Tr} {x : Nd} (hr : r = .ok t i) (hi : i ≤ s.size) (hd : d0 = d) (hx : NewT (w.heap.size + 1) u t x) : RefT w.heap.size w b0 B s d0 r (.returned x.val) (put8 u R x) := by
  subst hd
  have hR := h.hR
  exact fin_ok hr hi _ _ ((hx.put8 (by omega) x).less (Nat.le_succ _)) (h.rd.put8 h.res x) (h.fr.put8 (by omega) x)
theorem Ps.finB {w : World} {s : ByteArray} {b0 B R d d0 : Nat} {u : World} {i a c : Nat} (h : Ps w s b0 B R d u i (.slice none 0 0) [] c a) {r : Rs Tr} {t : Tr} {x : Nd} (hr : r = .bad a c) (hc : c ≠ 0) (hx : NewT (w.heap.size + 1) u t x) : RefT w.heap.size w b0 B s d0 r (.returned x.val) (put8 u R x) := by
  have hR := h.hR
  exact fin_bad hr hc _ _ ((hx.put8 (by omega) x).less (Nat.le_succ _)) (h.rd.put8 h.res x) (h.fr.put8 (by omega) x)
set_option maxRecDepth 4000 in
set_option maxHeartbeats 8000000 in
theorem rpiece_walk (n : Nat) (H : ∀ m, m < n → RAtomOK m) : RPieceOK n := by
  intro b0 B i d s w pre hlt hout
  obtain ⟨k, rfl⟩ : ∃ k, n = k + 1 := by
    cases n with
    | zero => exact absurd (by simp [piece]) hout
    | succ k => exact ⟨k, rfl⟩
  have HO : Hid (piece s (k + 1) d i ≠ .out) := hout
  have HP : Hid (∀ m, m < k + 1 → RAtomOK m) := H
  have HPC : Hid (piece s (k + 1) d i = if byt s i = 94 then .ok (.mk 6 Oct.none [] 0 0) (i + 1)
    else if byt s i = 36 then .ok (.mk 7 Oct.none [] 0 0) (i + 1)
    else match atom s k d i with
      | .ok t j => repeated s t j
      | .bad a e => .bad a e
      | .out => .out) := by show _ = _; rw [piece]; rfl
  have hs := pre.hs
  have hd := pre.hd
  have HB0 : Hid (b0 ≤ w.heap.size) := pre.hb
  have HNL : Hid (∀ k, k < s.size → byt s k ≠ 10) := pre.nl
  have hal : Below w.heap.size w (w.alloc (.cells #[.int .i64 0, .int .u64 0, .int .u64 0, .int .u64 0, .int .u64 0, .slice none 0 0, .int .i64 0, .int .i64 0] 28)) := (Below.refl _ _).alloc (Nat.le_refl _) _
  have HS : Hid (Ps w s b0 B w.heap.size d (w.alloc (.cells #[.int .i64 0, .int .u64 0, .int .u64 0, .int .u64 0, .int .u64 0, .slice none 0 0, .int .i64 0, .int .i64 0] 28)) i (.slice none 0 0) [] 0 0) :=
    ⟨nb_zero w, pre.rd.later hal, Fr.of_below b0 B hal, nodesT_nil _ _, rfl⟩
  obtain ⟨w1, hw1⟩ : ∃ w1, w1 = w.alloc (.cells #[.int .i64 0, .int .u64 0, .int .u64 0, .int .u64 0, .int .u64 0, .slice none 0 0, .int .i64 0, .int .i64 0] 28) := ⟨_, rfl⟩
  obtain ⟨R, hR⟩ : ∃ R, R = w.heap.size := ⟨_, rfl⟩
  rw [← hw1, ← hR] at HS
  have HW1 : Hid (w1 = _) := hw1
  have HRR : Hid (R = _) := hR
  have HRL : Hid (w.heap.size ≤ R) := by show _ ≤ _; omega
  have HRS : Hid (R < w.heap.size + 1) := by show _ < _; omega
  clear hw1 hR hal pre hout H
  have hi3 : i ≤ 1024 := by omega
  have hlt' : (i : Int) < (s.size : Int) := by omega
  obtain ⟨oo, cc, c0, c1, c2, c3, c4⟩ := HS.out.rd.cells
  go_enter Try.func45, Try.ntmps45
  go_upto_region 1 with fail
  rw [← HW1.out, ← HRR.out]
  clear HW1
  go_quiet (fail)
  have HS2 : Hid (Ps w s b0 B R d (w1.drewN nq) i (.slice none 0 0) [] 0 0) := HS.out.later (below_drewN _ _ _)
  obtain ⟨w2, hw2⟩ : ∃ w2, w2 = w1.drewN nq := ⟨_, rfl⟩
  rw [← hw2] at HS2
  have HW2 : Hid (w2 = _) := hw2
  clear hw2 c0 c1 c2 c3 c4 HS
  obtain ⟨c, hc⟩ : ∃ c, c = s[i].toNat := ⟨_, rfl⟩
  have hbc : byt s i = c := by rw [hc]; exact byt_eq hlt
  rw [← hc]
  rw [hbc] at HPC
  have HBC : Hid (byt s i = c) := hbc
  clear hc hbc
  go_upto_region 2 with fail
  rw [← HW2.out]
  clear HW2
  by_cases hc94 : c = 94
  · have g : ((c : Int) == 94) = true := by simp <;> omega
    have HX : Hid (piece s (k + 1) d i = .ok (.mk 6 Oct.none [] 0 0) (i + 1)) := by show _ = _; rw [HPC.out]; simp [hc94]
    clear hc94
    obtain ⟨oo, cc, c0, c1, c2, c3, c4⟩ := HS2.out.rd.cells
    have f1 := HS2.out.rd.frozen 1
    have HS3 : Hid (Ps w s b0 B R d (w2.setCell ⟨B, 1, none⟩ (.int .i64 ((i : Int) + 1))) (i + 1) (.slice none 0 0) [] 0 0) := HS2.out.read (Fr.set _ _ _ _ _) (HS2.out.rd.at (i + 1))
    go_upto_region 5 with fail
    obtain ⟨w3, hw3⟩ : ∃ w3, w3 = w2.setCell ⟨B, 1, none⟩ (.int .i64 ((i : Int) + 1)) := ⟨_, rfl⟩
    rw [← hw3] at HS3 ⊢
    clear hw3 c0 c1 c2 c3 c4 f1
    obtain ⟨z0, z1, z2, z3, z4, z5, z6, z7⟩ := HS3.out.res.cells
    have y0 := HS3.out.res.frozen 0
    have y1 := HS3.out.res.frozen 1
    have y2 := HS3.out.res.frozen 2
    have y3 := HS3.out.res.frozen 3
    have y4 := HS3.out.res.frozen 4
    have y5 := HS3.out.res.frozen 5
    have y6 := HS3.out.res.frozen 6
    have y7 := HS3.out.res.frozen 7
    go_wp2
    show bodyPost _ _ _ _ _ (put8z _ R 6 none 0 0 0 0)
    rw [put8z_eq]
    exact post_node Try.f45 2 rfl rfl rfl (HS3.out.res.put8 _) (HS3.out.fin HX.out (by omega) rfl (NewT.leaf _ _ 6 Oct.none 0 0 none 0))
  have g94 : ((c : Int) == 94) = false := by simp <;> omega
  by_cases hc36 : c = 36
  · have g : ((c : Int) == 36) = true := by simp <;> omega
    have HX : Hid (piece s (k + 1) d i = .ok (.mk 7 Oct.none [] 0 0) (i + 1)) := by show _ = _; rw [HPC.out]; simp [hc36]
    clear hc36
    obtain ⟨oo, cc, c0, c1, c2, c3, c4⟩ := HS2.out.rd.cells
    have f1 := HS2.out.rd.frozen 1
    have HS3 : Hid (Ps w s b0 B R d (w2.setCell ⟨B, 1, none⟩ (.int .i64 ((i : Int) + 1))) (i + 1) (.slice none 0 0) [] 0 0) := HS2.out.read (Fr.set _ _ _ _ _) (HS2.out.rd.at (i + 1))
    go_upto_region 8 with fail
    obtain ⟨w3, hw3⟩ : ∃ w3, w3 = w2.setCell ⟨B, 1, none⟩ (.int .i64 ((i : Int) + 1)) := ⟨_, rfl⟩
    rw [← hw3] at HS3 ⊢
    clear hw3 c0 c1 c2 c3 c4 f1
    obtain ⟨z0, z1, z2, z3, z4, z5, z6, z7⟩ := HS3.out.res.cells
    have y0 := HS3.out.res.frozen 0
    have y1 := HS3.out.res.frozen 1
    have y2 := HS3.out.res.frozen 2
    have y3 := HS3.out.res.frozen 3
    have y4 := HS3.out.res.frozen 4
    have y5 := HS3.out.res.frozen 5
    have y6 := HS3.out.res.frozen 6
    have y7 := HS3.out.res.frozen 7
    go_wp2
    show bodyPost _ _ _ _ _ (put8z _ R 7 none 0 0 0 0)
    rw [put8z_eq]
    exact post_node Try.f45 2 rfl rfl rfl (HS3.out.res.put8 _) (HS3.out.fin HX.out (by omega) rfl (NewT.leaf _ _ 7 Oct.none 0 0 none 0))
  have g36 : ((c : Int) == 36) = false := by simp <;> omega
  have HX0 : Hid (piece s (k + 1) d i = match atom s k d i with
      | .ok t j => repeated s t j
      | .bad a e => .bad a e
      | .out => .out) := by show _ = _; rw [HPC.out, if_neg hc94, if_neg hc36]
  have hpo : atom s k d i ≠ .out := fun e => HO.out (by rw [HX0.out, e])
  have HAT : Hid (c ∈ [42, 43, 63, 123] → atom s k d i = .bad i 44) := fun hm => by
    cases k with
    | zero => exact absurd (by simp [atom]) hpo
    | succ k => rw [atom, HBC.out, if_pos hm]
  have HPO : Hid (atom s k d i ≠ .out) := hpo
  clear hc94 hc36 hpo HPC
  by_cases hcc : c = 42
  · skip
    have HX : Hid (piece s (k + 1) d i = .bad i 44) := by show _ = _; rw [HX0.out, HAT.out (by simp [hcc])]
    have g42 : ((c : Int) == 42) = true := by simp <;> omega
    have g43 : ((c : Int) == 43) = false := by simp <;> omega
    have g63 : ((c : Int) == 63) = false := by simp <;> omega
    have g123 : ((c : Int) == 123) = false := by simp <;> omega
    clear hcc HX0 HAT
    obtain ⟨oo, cc, c0, c1, c2, c3, c4⟩ := HS2.out.rd.cells
    go_wp2_with fail
    refine (rfault_lit b0 B i d 44 i _ rfl s _ HS2.out.rd).mono ?_
    rintro e u6 ⟨rfl, hr6, hf6⟩
    have HS6 : Hid (Ps w s b0 B R d u6 i (.slice none 0 0) [] 44 i) := HS2.out.read hf6 hr6
    clear hr6 hf6 c0 c1 c2 c3 c4
    unfold zeroNd Nd.val
    obtain ⟨z0, z1, z2, z3, z4, z5, z6, z7⟩ := HS6.out.res.cells
    have y0 := HS6.out.res.frozen 0
    have y1 := HS6.out.res.frozen 1
    have y2 := HS6.out.res.frozen 2
    have y3 := HS6.out.res.frozen 3
    have y4 := HS6.out.res.frozen 4
    have y5 := HS6.out.res.frozen 5
    have y6 := HS6.out.res.frozen 6
    have y7 := HS6.out.res.frozen 7
    go_wp2
    show bodyPost _ _ _ _ _ (put8 _ R zeroNd)
    exact post_node Try.f45 2 rfl rfl rfl (HS6.out.res.put8 zeroNd) (HS6.out.finB HX.out (by decide) (newT_zero _ _))
  have n42 := hcc
  clear hcc
  by_cases hcc : c = 43
  · skip
    have HX : Hid (piece s (k + 1) d i = .bad i 44) := by show _ = _; rw [HX0.out, HAT.out (by simp [hcc])]
    have g42 : ((c : Int) == 42) = false := by simp <;> omega
    have g43 : ((c : Int) == 43) = true := by simp <;> omega
    have g63 : ((c : Int) == 63) = false := by simp <;> omega
    have g123 : ((c : Int) == 123) = false := by simp <;> omega
    clear hcc HX0 HAT
    obtain ⟨oo, cc, c0, c1, c2, c3, c4⟩ := HS2.out.rd.cells
    go_wp2_with fail
    refine (rfault_lit b0 B i d 44 i _ rfl s _ HS2.out.rd).mono ?_
    rintro e u6 ⟨rfl, hr6, hf6⟩
    have HS6 : Hid (Ps w s b0 B R d u6 i (.slice none 0 0) [] 44 i) := HS2.out.read hf6 hr6
    clear hr6 hf6 c0 c1 c2 c3 c4
    unfold zeroNd Nd.val
    obtain ⟨z0, z1, z2, z3, z4, z5, z6, z7⟩ := HS6.out.res.cells
    have y0 := HS6.out.res.frozen 0
    have y1 := HS6.out.res.frozen 1
    have y2 := HS6.out.res.frozen 2
    have y3 := HS6.out.res.frozen 3
    have y4 := HS6.out.res.frozen 4
    have y5 := HS6.out.res.frozen 5
    have y6 := HS6.out.res.frozen 6
    have y7 := HS6.out.res.frozen 7
    go_wp2
    show bodyPost _ _ _ _ _ (put8 _ R zeroNd)
    exact post_node Try.f45 2 rfl rfl rfl (HS6.out.res.put8 zeroNd) (HS6.out.finB HX.out (by decide) (newT_zero _ _))
  have n43 := hcc
  clear hcc
  by_cases hcc : c = 63
  · skip
    have HX : Hid (piece s (k + 1) d i = .bad i 44) := by show _ = _; rw [HX0.out, HAT.out (by simp [hcc])]
    have g42 : ((c : Int) == 42) = false := by simp <;> omega
    have g43 : ((c : Int) == 43) = false := by simp <;> omega
    have g63 : ((c : Int) == 63) = true := by simp <;> omega
    have g123 : ((c : Int) == 123) = false := by simp <;> omega
    clear hcc HX0 HAT
    obtain ⟨oo, cc, c0, c1, c2, c3, c4⟩ := HS2.out.rd.cells
    go_wp2_with fail
    refine (rfault_lit b0 B i d 44 i _ rfl s _ HS2.out.rd).mono ?_
    rintro e u6 ⟨rfl, hr6, hf6⟩
    have HS6 : Hid (Ps w s b0 B R d u6 i (.slice none 0 0) [] 44 i) := HS2.out.read hf6 hr6
    clear hr6 hf6 c0 c1 c2 c3 c4
    unfold zeroNd Nd.val
    obtain ⟨z0, z1, z2, z3, z4, z5, z6, z7⟩ := HS6.out.res.cells
    have y0 := HS6.out.res.frozen 0
    have y1 := HS6.out.res.frozen 1
    have y2 := HS6.out.res.frozen 2
    have y3 := HS6.out.res.frozen 3
    have y4 := HS6.out.res.frozen 4
    have y5 := HS6.out.res.frozen 5
    have y6 := HS6.out.res.frozen 6
    have y7 := HS6.out.res.frozen 7
    go_wp2
    show bodyPost _ _ _ _ _ (put8 _ R zeroNd)
    exact post_node Try.f45 2 rfl rfl rfl (HS6.out.res.put8 zeroNd) (HS6.out.finB HX.out (by decide) (newT_zero _ _))
  have n63 := hcc
  clear hcc
  by_cases hcc : c = 123
  · skip
    have HX : Hid (piece s (k + 1) d i = .bad i 44) := by show _ = _; rw [HX0.out, HAT.out (by simp [hcc])]
    have g42 : ((c : Int) == 42) = false := by simp <;> omega
    have g43 : ((c : Int) == 43) = false := by simp <;> omega
    have g63 : ((c : Int) == 63) = false := by simp <;> omega
    have g123 : ((c : Int) == 123) = true := by simp <;> omega
    clear hcc HX0 HAT
    obtain ⟨oo, cc, c0, c1, c2, c3, c4⟩ := HS2.out.rd.cells
    go_wp2_with fail
    refine (rfault_lit b0 B i d 44 i _ rfl s _ HS2.out.rd).mono ?_
    rintro e u6 ⟨rfl, hr6, hf6⟩
    have HS6 : Hid (Ps w s b0 B R d u6 i (.slice none 0 0) [] 44 i) := HS2.out.read hf6 hr6
    clear hr6 hf6 c0 c1 c2 c3 c4
    unfold zeroNd Nd.val
    obtain ⟨z0, z1, z2, z3, z4, z5, z6, z7⟩ := HS6.out.res.cells
    have y0 := HS6.out.res.frozen 0
    have y1 := HS6.out.res.frozen 1
    have y2 := HS6.out.res.frozen 2
    have y3 := HS6.out.res.frozen 3
    have y4 := HS6.out.res.frozen 4
    have y5 := HS6.out.res.frozen 5
    have y6 := HS6.out.res.frozen 6
    have y7 := HS6.out.res.frozen 7
    go_wp2
    show bodyPost _ _ _ _ _ (put8 _ R zeroNd)
    exact post_node Try.f45 2 rfl rfl rfl (HS6.out.res.put8 zeroNd) (HS6.out.finB HX.out (by decide) (newT_zero _ _))
  have n123 := hcc
  clear hcc
  have g42 : ((c : Int) == 42) = false := by simp <;> omega
  have g43 : ((c : Int) == 43) = false := by simp <;> omega
  have g63 : ((c : Int) == 63) = false := by simp <;> omega
  have g123 : ((c : Int) == 123) = false := by simp <;> omega
  have HNM : Hid (byt s i ∉ [42, 43, 63, 123]) := by show _ ∉ _; rw [HBC.out]; simp; omega
  have HCALL : Hid (∀ u, PreR u b0 B s i d → Calls Try.prog 49 #[.pointer (some ⟨B, 0, none⟩), .int .u8 (c : Nat)] u (RefT u.heap.size u b0 B s d (atom s k d i))) := fun u hu => by have := HP.out k (by omega) b0 B i d s u hu hlt HNM.out HPO.out; rw [HBC.out] at this; exact this
  clear n42 n43 n63 n123 HAT
  go_wp2_with fail
  refine (HCALL.out _ ⟨HS2.out.rd, by omega, hs, hd, by have := HB0.out; have := HS2.out.fr.size; omega, HNL.out⟩).mono ?_
  intro e w3 h3
  cases hat : atom s k d i with
  | out => exact absurd hat HPO.out
  | bad a c' =>
    rw [hat] at h3 HX0
    obtain ⟨hc0, t, x, j, d', rfl, hx, hr3, hf3⟩ := h3
    have HS3 : Hid (Ps w s b0 B R d' w3 j (.slice none 0 0) [] c' a) := HS2.out.read hf3 hr3
    have HX3 : Hid (NewT (w.heap.size + 1) w3 t x) := hx.less HS2.out.size
    obtain ⟨hp4, hb4⟩ := HS3.out.box x
    have HS4 : Hid (Ps w s b0 B R d' _ j (.slice none 0 0) [] c' a) := hp4
    have HB4 : Hid (NB _ w3.heap.size x) := hb4
    have HX4 : Hid (NewT (w.heap.size + 1) _ t x) := HX3.out.later ((Below.refl _ w3).alloc (Nat.le_refl _) (.cells #[.int .i64 x.k, .int .u64 (Oct.word x.s 0 : Nat), .int .u64 (Oct.word x.s 1 : Nat), .int .u64 (Oct.word x.s 2 : Nat), .int .u64 (Oct.word x.s 3 : Nat), .slice x.a x.n x.c, .int .i64 x.mn, .int .i64 x.mx] 28))
    clear hat hx hr3 hf3 hp4 hb4
    unfold Nd.val
    go_upto_region 15 with fail
    obtain ⟨w4, hw4⟩ : ∃ w4, w4 = w3.alloc (.cells #[.int .i64 x.k, .int .u64 (Oct.word x.s 0 : Nat), .int .u64 (Oct.word x.s 1 : Nat), .int .u64 (Oct.word x.s 2 : Nat), .int .u64 (Oct.word x.s 3 : Nat), .slice x.a x.n x.c, .int .i64 x.mn, .int .i64 x.mx] 28) := ⟨_, rfl⟩
    obtain ⟨G, hG⟩ : ∃ G, G = w3.heap.size := ⟨_, rfl⟩
    rw [← hw4] at HS4 HB4 HX4 ⊢
    rw [← hG] at HB4 ⊢
    clear hw4 hG
    obtain ⟨oo, cc, c0, c1, c2, c3, c4⟩ := HS4.out.rd.cells
    have q0 : ((c' : Int) == 0) = false := by simp <;> omega
    have q1 : ((c' : Int) != 0) = true := by simp <;> omega
    obtain ⟨p0, p1, p2, p3, p4, p5, p6, p7⟩ := HB4.out.cells
    obtain ⟨z0, z1, z2, z3, z4, z5, z6, z7⟩ := HS4.out.res.cells
    have y0 := HS4.out.res.frozen 0
    have y1 := HS4.out.res.frozen 1
    have y2 := HS4.out.res.frozen 2
    have y3 := HS4.out.res.frozen 3
    have y4 := HS4.out.res.frozen 4
    have y5 := HS4.out.res.frozen 5
    have y6 := HS4.out.res.frozen 6
    have y7 := HS4.out.res.frozen 7
    go_wp2
    exact post_node Try.f45 2 rfl rfl rfl (HS4.out.res.put8 x) (HS4.out.finB HX0.out hc0 HX4.out)
  | ok t j =>
    rw [hat] at h3 HX0
    obtain ⟨hj, x, rfl, hx, hr3, hf3⟩ := h3
    have HS3 : Hid (Ps w s b0 B R d w3 j (.slice none 0 0) [] 0 0) := HS2.out.read hf3 hr3
    have HX3 : Hid (NewT (w.heap.size + 1) w3 t x) := hx.less HS2.out.size
    obtain ⟨hp4, hb4⟩ := HS3.out.box x
    have HS4 : Hid (Ps w s b0 B R d _ j (.slice none 0 0) [] 0 0) := hp4
    have HB4 : Hid (NB _ w3.heap.size x) := hb4
    have HX4 : Hid (NewT (w.heap.size + 1) _ t x) := HX3.out.later ((Below.refl _ w3).alloc (Nat.le_refl _) (.cells #[.int .i64 x.k, .int .u64 (Oct.word x.s 0 : Nat), .int .u64 (Oct.word x.s 1 : Nat), .int .u64 (Oct.word x.s 2 : Nat), .int .u64 (Oct.word x.s 3 : Nat), .slice x.a x.n x.c, .int .i64 x.mn, .int .i64 x.mx] 28))
    clear hat hx hr3 hf3 hp4 hb4
    unfold Nd.val
    go_upto_region 15 with fail
    obtain ⟨w4, hw4⟩ : ∃ w4, w4 = w3.alloc (.cells #[.int .i64 x.k, .int .u64 (Oct.word x.s 0 : Nat), .int .u64 (Oct.word x.s 1 : Nat), .int .u64 (Oct.word x.s 2 : Nat), .int .u64 (Oct.word x.s 3 : Nat), .slice x.a x.n x.c, .int .i64 x.mn, .int .i64 x.mx] 28) := ⟨_, rfl⟩
    obtain ⟨G, hG⟩ : ∃ G, G = w3.heap.size := ⟨_, rfl⟩
    rw [← hw4] at HS4 HB4 HX4 ⊢
    rw [← hG] at HB4 ⊢
    clear hw4 hG
    obtain ⟨oo, cc, c0, c1, c2, c3, c4⟩ := HS4.out.rd.cells
    obtain ⟨p0, p1, p2, p3, p4, p5, p6, p7⟩ := HB4.out.cells
    go_wp2_with fail
    refine (rmore_any b0 B j d 0 0 j s _ HS4.out.rd).mono ?_
    rintro e ux ⟨rfl, hz⟩
    subst hz
    by_cases hjl : j < s.size
    · rw [decide_eq_true hjl]
      clear c0 c1 c2 c3 c4
      go_wp2_with fail
      refine (rrepeat_walk b0 B j d (w.heap.size + 1) s t x _ HS4.out.rd hjl hs HX4.out HS4.out.size).mono ?_
      intro e w5 h5
      cases hrp : repeated s t j with
      | out => rw [hrp] at h5; exact h5.elim
      | bad a c' =>
        rw [hrp] at h5 HX0
        obtain ⟨hc0, t2, y, j2, d', rfl, hy, hr5, hf5⟩ := h5
        have HS5 : Hid (Ps w s b0 B R d' w5 j2 (.slice none 0 0) [] c' a) := HS4.out.read hf5 hr5
        have HY5 : Hid (NewT (w.heap.size + 1) w5 t2 y) := hy
        clear hrp hy hr5 hf5 p0 p1 p2 p3 p4 p5 p6 p7
        unfold Nd.val
        obtain ⟨z0, z1, z2, z3, z4, z5, z6, z7⟩ := HS5.out.res.cells
        have y0 := HS5.out.res.frozen 0
        have y1 := HS5.out.res.frozen 1
        have y2 := HS5.out.res.frozen 2
        have y3 := HS5.out.res.frozen 3
        have y4 := HS5.out.res.frozen 4
        have y5 := HS5.out.res.frozen 5
        have y6 := HS5.out.res.frozen 6
        have y7 := HS5.out.res.frozen 7
        go_wp2
        exact post_node Try.f45 2 rfl rfl rfl (HS5.out.res.put8 y) (HS5.out.finB HX0.out hc0 HY5.out)
      | ok t2 j2 =>
        rw [hrp] at h5 HX0
        obtain ⟨hj2, y, rfl, hy, hr5, hf5⟩ := h5
        have HS5 : Hid (Ps w s b0 B R d w5 j2 (.slice none 0 0) [] 0 0) := HS4.out.read hf5 hr5
        have HY5 : Hid (NewT (w.heap.size + 1) w5 t2 y) := hy
        clear hrp hy hr5 hf5 p0 p1 p2 p3 p4 p5 p6 p7
        unfold Nd.val
        obtain ⟨z0, z1, z2, z3, z4, z5, z6, z7⟩ := HS5.out.res.cells
        have y0 := HS5.out.res.frozen 0
        have y1 := HS5.out.res.frozen 1
        have y2 := HS5.out.res.frozen 2
        have y3 := HS5.out.res.frozen 3
        have y4 := HS5.out.res.frozen 4
        have y5 := HS5.out.res.frozen 5
        have y6 := HS5.out.res.frozen 6
        have y7 := HS5.out.res.frozen 7
        go_wp2
        exact post_node Try.f45 2 rfl rfl rfl (HS5.out.res.put8 y) (HS5.out.fin HX0.out hj2 rfl HY5.out)
    · rw [decide_eq_false hjl]
      have HX1 : Hid (piece s (k + 1) d i = .ok t j) := by show _ = _; rw [HX0.out]; unfold repeated; simp only [sees_end hjl]; rfl
      obtain ⟨z0, z1, z2, z3, z4, z5, z6, z7⟩ := HS4.out.res.cells
      have y0 := HS4.out.res.frozen 0
      have y1 := HS4.out.res.frozen 1
      have y2 := HS4.out.res.frozen 2
      have y3 := HS4.out.res.frozen 3
      have y4 := HS4.out.res.frozen 4
      have y5 := HS4.out.res.frozen 5
      have y6 := HS4.out.res.frozen 6
      have y7 := HS4.out.res.frozen 7
      go_wp2
      exact post_node Try.f45 2 rfl rfl rfl (HS4.out.res.put8 x) (HS4.out.fin HX1.out hj rfl HX4.out)
end Go.Proofs.Ytlcnmfgmgiijpaa

/- The document's list of open groups of layer 4; where a pattern ends; sets of nothing and one byte. -/
namespace Go.Proofs.Ytlcnmfgmgiijpaa
open Go.RowKit

theorem info3 : (Try.prog.info? 3).map (fun i => (i.zero, i.size, i.bytes)) = some (some (.int .i64 0), 1, 8) := by kernel_rfl
theorem open_append {u : World} {b0 B : Nat} {s : ByteArray} {i d e a : Nat} (h : RR u b0 B s i d e a) (hb : b0 ≤ u.heap.size) (hd : d ≤ 64) (at_ : Int) (ty : TypeId) :
    ∃ o c g cap' u2, u.cell? ⟨B, 2, none⟩ = some (.slice o d c) ∧ (u.alloc (.cells #[.int .i64 at_] 3)).cell? ⟨B, 2, none⟩ = some (.slice o d c) ∧ (Builtin.append_ #[55, 55] ty #[.slice o d c, .slice (some ⟨u.heap.size, 0, none⟩) 1 1]).run Try.prog (u.alloc (.cells #[.int .i64 at_] 3)) = .ok (.slice (some ⟨g, 0, none⟩) (d + 1) cap') u2 ∧
      u2.cell? ⟨B, 2, none⟩ = some (.slice o d c) ∧ u2.frozen? ⟨B, 2, none⟩ = false ∧ RR (u2.setCell ⟨B, 2, none⟩ (.slice (some ⟨g, 0, none⟩) (d + 1) cap')) b0 B s i (d + 1) e a ∧ Fr b0 B u (u2.setCell ⟨B, 2, none⟩ (.slice (some ⟨g, 0, none⟩) (d + 1) cap')) := by
  have hal : Below u.heap.size u (u.alloc (.cells #[.int .i64 at_] 3)) := (Below.refl _ _).alloc (Nat.le_refl _) _
  have h1 := h.later hal
  have hlt := h.lt
  have hlt1 := h1.lt
  have hty1 := h1.ty
  obtain ⟨hB, V, xs, hc, ho⟩ := h
  obtain ⟨_, V1, xs1, hc1, ho1⟩ := h1
  have e1 : V1 = V := by
    have := (hal.block B hlt).trans hc
    rw [hc1] at this
    simp at this
    exact this
  subst e1
  obtain ⟨o, c, rfl⟩ : ∃ o c, V1 = .slice o d c := by
    rcases ho.2 with ⟨rfl, rfl⟩ | ⟨g, cap, cur, rfl, _⟩
    · exact ⟨_, _, rfl⟩
    · exact ⟨_, _, rfl⟩
  obtain ⟨i0, hi, hz0, hz1, hz2⟩ := info_parts info3
  obtain ⟨g, cap', u2, hr, ho2, hg, hgg, hlt2⟩ := run_append_lies (P := Try.prog) (u.alloc (.cells #[.int .i64 at_] 3)) 55 ty b0 3 i0 _ 1 8 Try.underlying55 hi hz0 hz1 hz2 rfl (by decide) (.slice o d c) d xs1 ho1 ⟨u.heap.size, 0, none⟩ 1 1 [.int .i64 at_] rfl
    (fun j v hj => by
      rw [Go.WideShapes.add_plain, Nat.zero_add, World.cell?_alloc_mark]
      simpa using hj) (fun v hv => by simp at hv; subst hv; rfl) (by decide) (by simp only [maxLen]; omega) (by omega) (by simp; omega) _ rfl
  have hob : ∀ k, (Value.slice o d c).ownBlock = some k → b0 ≤ k ∧ TyB u 3 k := fun k hk => by
    rcases ho.2 with ⟨e, _⟩ | ⟨g', cap, cur, e, hbg, hgg, _⟩
    · rw [e] at hk; simp [Value.ownBlock] at hk
    · rw [e] at hk; simp [Value.ownBlock] at hk; subst hk; exact ⟨hbg, ⟨_, _, hgg⟩⟩
  have hneB : (Value.slice o d c).ownBlock ≠ some B := fun e => absurd (TyB.ne (hob B e).2 ⟨_, _, hc⟩) (by decide)
  have hc2 : u2.heap[B]? = some (.cells #[.string s, .int .i64 (i : Nat), .slice o d c, .int .i64 (e : Nat), .int .i64 (a : Nat)] 57 (0, 0)) := (hg.block B hlt1 (fun e => hneB e.symm)).trans hc1
  have hgB : g ≠ B := fun e => by
    rcases ho2.2 with ⟨h, _⟩ | ⟨g', cap, cur, h, _, hgg', _⟩
    · simp at h
    · simp at h
      have : TyB u2 3 B := ⟨cur, (0, 0), by rw [← e, h.1]; exact hgg'⟩
      exact absurd (TyB.ne this ⟨_, _, hc2⟩) (by decide)
  refine ⟨o, c, g, cap', u2, by simp [World.cell?, hc], by simp [World.cell?, hc1], hr, by simp [World.cell?, hc2], by simp [World.frozen?, hc2], ⟨hB, _, _, by rw [heap_set hc2]; rfl, ho2.1, ?_⟩, ?_⟩
  · rcases ho2.2 with ⟨h, _⟩ | ⟨g', cap, cur, h, hbg, hgg', r⟩
    · simp at h
    · refine Or.inr ⟨g', cap, cur, h, hbg, ?_, r⟩
      simp at h
      rw [Below.heap_setCell u2 ⟨B, 2, none⟩ _ g' (by rw [← h.1]; exact hgB)]
      exact hgg'
  · have hf1 : Fr b0 B u (u.alloc (.cells #[.int .i64 at_] 3)) := Fr.of_below b0 B hal
    refine Fr.trans (u := u2) ?_ (Fr.set _ _ _ _ _)
    exact ⟨hg.os.trans hf1.os, hg.tape.trans hf1.tape, hg.output.trans hf1.output, Nat.le_trans hf1.size hg.size, fun k hk hne ht => by
      refine (hg.block k (Nat.lt_of_lt_of_le hk hf1.size) (fun e => ?_)).trans (hf1.block k hk hne ht)
      exact ht (hob k e.symm).1 (hob k e.symm).2⟩
theorem wpList_append_run {w w' : World} {ops : Array Oper} {rest : List Oper} {o : Oper} {a : Act} {Q : Exit → Act → World → Prop} (hgd : o.guard = none) (s y : Operand)
    (ho : o.op = .call { callee := .builtin .append, args := #[s, y], argTypes := #[55, 55] }) {V Y v : Value} (hs : a.eval s = V) (hy : a.eval y = Y) (hr : (Builtin.append_ #[55, 55] o.type #[V, Y]).run Try.prog w = .ok v w')
    (h : wpList Try.prog ops Q rest (a.put o.dst v) w') : wpList Try.prog ops Q (o :: rest) a w := by
  refine wpList_plain hgd fun K hK => ?_
  unfold Oper.wp execOp
  simp only [ho, resolve, invoke, builtin, Sem.run_bind, Sem.run_pure, Result.andThen_ok, List.map_toArray, List.map_cons, List.map_nil, hs, hy, hr]
  exact hK _ _ h
/-- the last open group closed -/
theorem open_pop {u : World} {b0 B : Nat} {s : ByteArray} {i d e a : Nat} (h : RR u b0 B s i (d + 1) e a) : ∃ g c, u.cell? ⟨B, 2, none⟩ = some (.slice (some ⟨g, 0, none⟩) (d + 1) c) ∧ d + 1 ≤ c ∧ c ≤ maxLen ∧ ∀ u' : World, (∀ k : Nat, u'.heap[k]? = u.heap[k]?) → RR (u'.setCell ⟨B, 2, none⟩ (.slice (some ⟨g, 0, none⟩) d c)) b0 B s i d e a := by
  obtain ⟨hB, V, xs, hc, ho⟩ := h
  rcases ho.2 with ⟨_, h0⟩ | ⟨g, cap, cur, rfl, hbg, hgg, h1, h2, h3, h4⟩
  · omega
  · refine ⟨g, cap, by simp [World.cell?, hc], h1, h2, fun u' hu => ⟨hB, _, cur.toList.take d, by rw [heap_set ((hu B).trans hc)]; rfl, ?_, Or.inr ⟨g, cap, cur, rfl, hbg, ?_, by omega, h2, h3, by simp⟩⟩⟩
    · rw [List.length_take, Array.length_toList, h3]
      omega
    · have hne : g ≠ B := fun e => by subst e; exact absurd (TyB.ne (w := u) ⟨_, _, hgg⟩ ⟨_, _, hc⟩) (by decide)
      rw [Below.heap_setCell u' ⟨B, 2, none⟩ _ g hne]
      exact (hu g).trans hgg
def StopsAt (s : ByteArray) (j : Nat) : Prop := ¬ j < s.size ∨ sees s j 124 = true ∨ sees s j 41 = true
theorem altLoop_stop (s : ByteArray) (d : Nat) : ∀ (n : Nat) (acc : List Tr) (i : Nat) (t : Tr) (j : Nat), altLoop s n d acc i = .ok t j → StopsAt s j := by
  intro n
  induction n with
  | zero => intro acc i t j h; simp [altLoop] at h
  | succ n ih =>
    intro acc i t j h
    rw [altLoop] at h
    split at h
    · split at h
      · exact ih _ _ _ _ h
      · cases h
      · cases h
    · rename_i hc
      cases h
      unfold StopsAt
      simp only [Bool.and_eq_true, decide_eq_true_eq, Bool.not_eq_true', not_and, Bool.not_eq_false] at hc
      by_cases h1 : i < s.size
      · cases h2 : sees s i 124 with
        | true => exact Or.inr (Or.inl rfl)
        | false => exact Or.inr (Or.inr (hc ⟨h1, h2⟩))
      · exact Or.inl h1
theorem alt_stop {s : ByteArray} {n d i j : Nat} {t : Tr} (h : alt s n d i = .ok t j) : StopsAt s j := by
  cases n with
  | zero => simp [alt] at h
  | succ n => rw [alt] at h; exact altLoop_stop s d n [] i t j h
theorem patLoop_stop (s : ByteArray) (d : Nat) : ∀ (n : Nat) (acc : List Tr) (i : Nat) (t : Tr) (j : Nat), StopsAt s i → patLoop s n d acc i = .ok t j → ¬ j < s.size ∨ sees s j 41 = true := by
  intro n
  induction n with
  | zero => intro acc i t j _ h; simp [patLoop] at h
  | succ n ih =>
    intro acc i t j hs h
    rw [patLoop] at h
    split at h
    · split at h
      · rename_i ha
        exact ih _ _ _ _ (alt_stop ha) h
      · cases h
      · cases h
    · rename_i hc
      cases h
      rcases hs with hs | hs | hs
      · exact Or.inl hs
      · exact absurd hs hc
      · exact Or.inr hs
theorem pat_stop {s : ByteArray} {n d i j : Nat} {t : Tr} (h : pat s n d i = .ok t j) : ¬ j < s.size ∨ sees s j 41 = true := by
  cases n with
  | zero => simp [pat] at h
  | succ n =>
    rw [pat] at h
    split at h
    · rename_i ha
      exact patLoop_stop s d n _ _ t j (alt_stop ha) h
    · cases h
    · cases h
theorem setV_none : setV Oct.none = .agg #[.int .u64 0, .int .u64 0, .int .u64 0, .int .u64 0] := by unfold setV; rw [word0, word0, word0, word0]
theorem rnot_zero (w : World) : Calls Try.prog 53 #[.agg #[.int .u64 0, .int .u64 0, .int .u64 0, .int .u64 0]] w fun e w' => e = .returned (setV ordinary) ∧ Below w.heap.size w w' := by
  rw [← setV_none]
  exact rnot_any Oct.none w
theorem rwith_zero (b : Nat) (w : World) (hb : b < 256) (h10 : b ≠ 10) : Calls Try.prog 55 #[.agg #[.int .u64 0, .int .u64 0, .int .u64 0, .int .u64 0], .int .u8 (b : Nat)] w fun e w' => e = .returned (setV (Oct.has [b])) ∧ Below w.heap.size w w' := by
  rw [← setV_none]
  refine (rwith_any Oct.none b w hb).mono ?_
  rintro e w' ⟨rfl, h⟩
  refine ⟨?_, h⟩
  rw [show wi Oct.none b = Oct.has [b] from by
    unfold wi
    rw [if_neg h10]
    funext c
    rw [Bool.eq_iff_iff]
    simp [Oct.ins, Oct.none, Oct.has]]
end Go.Proofs.Ytlcnmfgmgiijpaa
