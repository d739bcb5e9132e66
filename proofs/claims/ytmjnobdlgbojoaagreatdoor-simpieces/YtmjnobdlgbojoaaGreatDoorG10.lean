
import Derived.Test.YtmjnobdlgbojoaaGreatDoorG09
import Derived.Test.YtmjnobdlgbojoaaGreatDoorG01
namespace Go.Proofs.YtmjnobdlgbojoaaGreatDoor
open Go.RowKit
attribute [local go_sem ↓] Go.wp_at_zero Go.wp_at_succ
set_option maxRecDepth 4000 in
set_option maxHeartbeats 4000000 in
theorem piece_walk (n : Nat) (H : ∀ m, m < n → AtomOK m) : PieceOK n := by
  intro B i d s w pre hlt hout
  obtain ⟨k, rfl⟩ : ∃ k, n = k + 1 := by
    cases n with
    | zero => exact absurd (by simp [piece]) hout
    | succ k => exact ⟨k, rfl⟩
  have HO : Hid (piece s (k + 1) d i ≠ .out) := hout
  have HP : Hid (∀ m, m < k + 1 → AtomOK m) := H
  have HPC : Hid (piece s (k + 1) d i = if byt s i = 94 then .ok (.mk 6 Oct.none [] 0 0) (i + 1)
    else if byt s i = 36 then .ok (.mk 7 Oct.none [] 0 0) (i + 1)
    else match atom s k d i with
      | .ok t j => repeated s t j
      | .bad a e => .bad a e
      | .out => .out) := by show _ = _; rw [piece]; rfl
  have hi := pre.hi
  have hs := pre.hs
  have hd := pre.hd
  have HB0 : Hid (2 ≤ B) := pre.hB0
  have HBW : Hid (B < w.heap.size) := pre.rd.lt
  have hal : Below w.heap.size w (w.alloc (.cells #[.int .i64 0, .int .u64 0, .int .u64 0, .int .u64 0, .int .u64 0, .slice none 0 0, .int .i64 0, .int .i64 0] 30)) := (Below.refl _ _).alloc (Nat.le_refl _) _
  have HN1 : Hid (NB (w.alloc (.cells #[.int .i64 0, .int .u64 0, .int .u64 0, .int .u64 0, .int .u64 0, .slice none 0 0, .int .i64 0, .int .i64 0] 30)) w.heap.size zeroNd) := nb_zero w
  have HR1 : Hid (RB (w.alloc (.cells #[.int .i64 0, .int .u64 0, .int .u64 0, .int .u64 0, .int .u64 0, .slice none 0 0, .int .i64 0, .int .i64 0] 30)) B s i d) := pre.rd.later hal
  have HM1 : Hid (GM (w.alloc (.cells #[.int .i64 0, .int .u64 0, .int .u64 0, .int .u64 0, .int .u64 0, .slice none 0 0, .int .i64 0, .int .i64 0] 30))) := pre.gm.later hal
  have HG1 : Hid (w.grownBy (w.alloc (.cells #[.int .i64 0, .int .u64 0, .int .u64 0, .int .u64 0, .int .u64 0, .slice none 0 0, .int .i64 0, .int .i64 0] 30)) (some B)) := grown_below (grown_refl _ _) hal
  obtain ⟨w1, hw1⟩ : ∃ w1, w1 = w.alloc (.cells #[.int .i64 0, .int .u64 0, .int .u64 0, .int .u64 0, .int .u64 0, .slice none 0 0, .int .i64 0, .int .i64 0] 30) := ⟨_, rfl⟩
  obtain ⟨R, hR⟩ : ∃ R, R = w.heap.size := ⟨_, rfl⟩
  rw [← hw1, ← hR] at HN1
  rw [← hw1] at HR1 HM1 HG1
  have HW1 : Hid (w1 = _) := hw1
  have HRR : Hid (R = _) := hR
  have HRB : Hid (R ≠ B) := by have := HBW.out; show _ ≠ _; omega
  clear hw1 hR hal pre hout H
  obtain ⟨c0, c1, c2⟩ := HR1.out.cells
  have hi3 : i ≤ 1024 := by omega
  have hlt' : (i : Int) < (s.size : Int) := by omega
  go_enter Tryz.func84, Tryz.ntmps84
  go_upto_region 1 with fail
  rw [← HW1.out, ← HRR.out]
  clear HW1
  go_quiet (fail)
  have HR2 : Hid (RB (w1.drewN nq) B s i d) := HR1.out.later (below_drewN _ _ _)
  have HN2 : Hid (NB (w1.drewN nq) R zeroNd) := HN1.out.later (below_drewN _ _ _)
  have HM2 : Hid (GM (w1.drewN nq)) := HM1.out.later (below_drewN _ _ _)
  have HG2 : Hid (w.grownBy (w1.drewN nq) (some B)) := grown_below HG1.out (below_drewN _ _ _)
  obtain ⟨w2, hw2⟩ : ∃ w2, w2 = w1.drewN nq := ⟨_, rfl⟩
  rw [← hw2] at HR2 HN2 HG2 HM2
  have HW2 : Hid (w2 = _) := hw2
  clear hw2 c0 c1 c2 HR1 HN1 HG1 HM1
  go_upto_region 2 with fail
  rw [← HW2.out]
  clear HW2
  obtain ⟨c0, c1, c2⟩ := HR2.out.cells
  by_cases h94 : s[i].toNat = 94
  · have g1 : ((s[i].toNat : Int) == 94) = true := by simp; omega
    have HX : Hid (piece s (k + 1) d i = .ok (.mk 6 Oct.none [] 0 0) (i + 1)) := by show _ = _; rw [HPC.out]; simp [byt_eq hlt, h94]
    clear h94
    have HR3 : Hid (RB (w2.setCell ⟨B, 1, none⟩ (.int .i64 ((i : Int) + 1))) B s (i + 1) d) := HR2.out.at (i + 1)
    have HG3 : Hid (w.grownBy (w2.setCell ⟨B, 1, none⟩ (.int .i64 ((i : Int) + 1))) (some B)) := grown_trans HG2.out (grown_set _ _ _ _)
    have HN3 : Hid (NB (w2.setCell ⟨B, 1, none⟩ (.int .i64 ((i : Int) + 1))) R zeroNd) := HN2.out.set HRB.out _ _
    have f1 := HR2.out.frozen 1
    go_upto_region 4 with fail
    obtain ⟨w3, hw3⟩ : ∃ w3, w3 = w2.setCell ⟨B, 1, none⟩ (.int .i64 ((i : Int) + 1)) := ⟨_, rfl⟩
    rw [← hw3] at HR3 HG3 HN3 ⊢
    clear hw3 c0 c1 c2 f1
    obtain ⟨z0, z1, z2, z3, z4, z5, z6, z7⟩ := HN3.out.cells
    have y0 := HN3.out.frozen 0
    have y1 := HN3.out.frozen 1
    have y2 := HN3.out.frozen 2
    have y3 := HN3.out.frozen 3
    have y4 := HN3.out.frozen 4
    have y5 := HN3.out.frozen 5
    have y6 := HN3.out.frozen 6
    have y7 := HN3.out.frozen 7
    go_wp2
    show bodyPost _ _ _ _ _ (put8z _ R 6 none 0 0 0 0)
    rw [put8z_eq]
    refine post_node Tryz.f84 2 rfl rfl rfl (HN3.out.put8 _) ?_
    unfold Reads
    rw [HX.out]
    exact ⟨by omega, _, rfl, ⟨_, rfl, NodeAt.leaf _ _ 6 Oct.none 0 0 none 0⟩, put8_rb HR3.out HRB.out _, put8_grown HG3.out (by rw [HRR.out]; exact Nat.le_refl _) _⟩
  · have g1 : ((s[i].toNat : Int) == 94) = false := by simp; omega
    by_cases h36 : s[i].toNat = 36
    · have g2 : ((s[i].toNat : Int) == 36) = true := by simp; omega
      have HX : Hid (piece s (k + 1) d i = .ok (.mk 7 Oct.none [] 0 0) (i + 1)) := by show _ = _; rw [HPC.out]; simp [byt_eq hlt, h36]
      clear h94 h36
      have HR3 : Hid (RB (w2.setCell ⟨B, 1, none⟩ (.int .i64 ((i : Int) + 1))) B s (i + 1) d) := HR2.out.at (i + 1)
      have HG3 : Hid (w.grownBy (w2.setCell ⟨B, 1, none⟩ (.int .i64 ((i : Int) + 1))) (some B)) := grown_trans HG2.out (grown_set _ _ _ _)
      have HN3 : Hid (NB (w2.setCell ⟨B, 1, none⟩ (.int .i64 ((i : Int) + 1))) R zeroNd) := HN2.out.set HRB.out _ _
      have f1 := HR2.out.frozen 1
      go_upto_region 7 with fail
      obtain ⟨w3, hw3⟩ : ∃ w3, w3 = w2.setCell ⟨B, 1, none⟩ (.int .i64 ((i : Int) + 1)) := ⟨_, rfl⟩
      rw [← hw3] at HR3 HG3 HN3 ⊢
      clear hw3 c0 c1 c2 f1
      obtain ⟨z0, z1, z2, z3, z4, z5, z6, z7⟩ := HN3.out.cells
      have y0 := HN3.out.frozen 0
      have y1 := HN3.out.frozen 1
      have y2 := HN3.out.frozen 2
      have y3 := HN3.out.frozen 3
      have y4 := HN3.out.frozen 4
      have y5 := HN3.out.frozen 5
      have y6 := HN3.out.frozen 6
      have y7 := HN3.out.frozen 7
      go_wp2
      show bodyPost _ _ _ _ _ (put8z _ R 7 none 0 0 0 0)
      rw [put8z_eq]
      refine post_node Tryz.f84 2 rfl rfl rfl (HN3.out.put8 _) ?_
      unfold Reads
      rw [HX.out]
      exact ⟨by omega, _, rfl, ⟨_, rfl, NodeAt.leaf _ _ 7 Oct.none 0 0 none 0⟩, put8_rb HR3.out HRB.out _, put8_grown HG3.out (by rw [HRR.out]; exact Nat.le_refl _) _⟩
    · have g2 : ((s[i].toNat : Int) == 36) = false := by simp; omega
      have HX : Hid (piece s (k + 1) d i = match atom s k d i with
        | .ok t j => repeated s t j
        | .bad a e => .bad a e
        | .out => .out) := by show _ = _; rw [HPC.out]; simp [byt_eq hlt, h94, h36]
      clear h94 h36 c0 c1 c2
      have hpo : atom s k d i ≠ .out := fun e => HO.out (by rw [HX.out, e])
      go_wp2_with fail
      refine (HP.out k (by omega) B i d s w2 ⟨HR2.out, by omega, hs, HM2.out, HB0.out, hd⟩ hlt hpo).mono ?_
      intro e w3 h3
      clear hpo
      cases hc : atom s k d i with
      | out => rw [hc] at h3; exact h3.elim
      | bad a c =>
        rw [hc] at h3 HX
        obtain ⟨rfl, hg3⟩ := h3
        have HG3 : Hid (w.grownBy w3 (some B)) := grown_trans HG2.out hg3
        clear hc hg3
        go_wp2
        refine ⟨rfl, ?_⟩
        unfold Reads
        rw [HX.out]
        exact ⟨rfl, HG3.out⟩
      | ok t j =>
        rw [hc] at h3 HX
        obtain ⟨hj, v, rfl, ⟨x, rfl, hx⟩, hr3, hg3⟩ := h3
        have HN3 : Hid (NB w3 R zeroNd) := HN2.out.grown hg3 (by have := HRB.out; simp; exact this)
        have HG3 : Hid (w.grownBy w3 (some B)) := grown_trans HG2.out hg3
        have hz2 : w.heap.size + 1 ≤ w2.heap.size := by have := HN2.out.lt; have := HRR.out; omega
        have HX3 : Hid (NodeAt (fun b => w.heap.size + 1 ≤ b) w3 t x) := hx.keep (fun b hb _ => by omega) (fun _ _ _ => rfl)
        have HR3 : Hid (RB w3 B s j d) := hr3
        have HZ3 : Hid (w.heap.size + 1 ≤ w3.heap.size) := by have := HN3.out.lt; have := HRR.out; show _ ≤ _; omega
        clear hc hg3 hr3 hx hz2
        go_wp2_with fail
        refine (repeated_walk B j d (w.heap.size + 1) s t x w3 HR3.out hj hs HX3.out (by have := HBW.out; omega) HZ3.out).mono ?_
        intro e w4 h4
        cases hc : repeated s t j with
        | out => rw [hc] at h4; exact h4.elim
        | bad a c =>
          rw [hc] at h4 HX
          obtain ⟨rfl, hg4⟩ := h4
          have HG4 : Hid (w.grownBy w4 (some B)) := grown_trans HG3.out hg4
          clear hc hg4
          go_wp2
          refine ⟨rfl, ?_⟩
          unfold Reads
          rw [HX.out]
          exact ⟨rfl, HG4.out⟩
        | ok t2 j2 =>
          rw [hc] at h4 HX
          obtain ⟨hj2, v, rfl, ⟨y, rfl, hy⟩, hr4, hg4⟩ := h4
          have HN4 : Hid (NB w4 R zeroNd) := HN3.out.grown hg4 (by have := HRB.out; simp; exact this)
          have HG4 : Hid (w.grownBy w4 (some B)) := grown_trans HG3.out hg4
          have HY4 : Hid (NodeAt (fun b => w.heap.size + 1 ≤ b) w4 t2 y) := hy
          have HR4 : Hid (RB w4 B s j2 d) := hr4
          clear hc hg4 hr4 hy HN3 HG3 HX3 HR3 HZ3
          obtain ⟨z0, z1, z2, z3, z4, z5, z6, z7⟩ := HN4.out.cells
          have y0 := HN4.out.frozen 0
          have y1 := HN4.out.frozen 1
          have y2 := HN4.out.frozen 2
          have y3 := HN4.out.frozen 3
          have y4 := HN4.out.frozen 4
          have y5 := HN4.out.frozen 5
          have y6 := HN4.out.frozen 6
          have y7 := HN4.out.frozen 7
          unfold Nd.val
          go_wp2
          refine post_node Tryz.f84 2 rfl rfl rfl (HN4.out.put8 y) ?_
          unfold Reads
          rw [HX.out]
          have hRR := HRR.out
          exact ⟨hj2, _, rfl, ⟨_, rfl, HY4.out.keep (fun b hb _ => by omega) (fun b hb _ => heap_put8 _ R _ b (by omega))⟩, put8_rb HR4.out HRB.out _, put8_grown HG4.out (by omega) _⟩
end Go.Proofs.YtmjnobdlgbojoaaGreatDoor


namespace Go.Proofs.YtmjnobdlgbojoaaGreatDoor
open Go.RowKit
theorem nb_put4 {u : World} {R A : Nat} {x : Nd} (h : NB u R x) (hne : R ≠ A) (t : Oct.S) : NB (put4 u A t) R x := (((h.set hne _ _).set hne _ _).set hne _ _).set hne _ _
structure At (w : World) (s : ByteArray) (B R A d : Nat) (u : World) (i : Nat) (x : Oct.S) : Prop where
  res : NB u R zeroNd
  box : SB u A x
  rd : RB u B s i d
  gm : GM u
  grown : w.grownBy u (some B)
  hR : R = w.heap.size
  hA : A = w.heap.size + 1
  hB : B < w.heap.size
  hB0 : 2 ≤ B
section
variable {w : World} {s : ByteArray} {B R A d : Nat} {u u' : World} {i : Nat} {x : Oct.S}
theorem At.later (h : At w s B R A d u i x) (hb : Below u.heap.size u u') : At w s B R A d u' i x :=
  ⟨h.res.later hb, h.box.later hb, h.rd.later hb, h.gm.later hb, grown_below h.grown hb, h.hR, h.hA, h.hB, h.hB0⟩
theorem At.read (h : At w s B R A d u i x) {j : Nat} (hg : u.grownBy u' (some B)) (hr : RB u' B s j d) : At w s B R A d u' j x := by
  have h1 := h.hR
  have h2 := h.hA
  have h3 := h.hB
  exact ⟨h.res.grown hg (by simp; omega), (hg.block A h.box.lt (by simp; omega)).trans h.box, hr, h.gm.grown hg h.hB0, grown_trans h.grown hg, h1, h2, h3, h.hB0⟩
theorem At.put (h : At w s B R A d u i x) (t : Oct.S) : At w s B R A d (put4 u A t) i t := by
  have h1 := h.hR
  have h2 := h.hA
  have h3 := h.hB
  exact ⟨nb_put4 h.res (by omega) t, h.box.put4 t, rb_put4 h.rd (by omega) t, gm_other (gm_other (gm_other (gm_other h.gm (by omega) _ _) (by omega) _ _) (by omega) _ _) (by omega) _ _, grown_put4 h.grown (by omega) t, h1, h2, h3, h.hB0⟩
theorem At.fin (h : At w s B R A d u i x) (hi : i ≤ s.size) : Reads w B s d (.ok (setT x) i) (TreeV w.heap.size) (.returned (Nd.val ⟨(2 : Nat), x, none, 0, 0, 0, 0⟩)) (put8 u R ⟨(2 : Nat), x, none, 0, 0, 0, 0⟩) := by
  have h1 := h.hR
  have h3 := h.hB
  exact ⟨hi, _, rfl, ⟨_, rfl, NodeAt.leaf _ _ 2 x 0 0 none 0⟩, put8_rb h.rd (by omega) _, put8_grown h.grown (by omega) _⟩
end
def Fr17 (act a : Act) : Prop := a.tmps.size = 65 ∧ a.defers = act.defers ∧ ∀ k, k < 45 ∨ 56 ≤ k → a.tmps[k]? = act.tmps[k]?
theorem Fr17.put {act a : Act} (h : Fr17 act a) {k : Nat} (hd : 45 ≤ k) (hd2 : k < 56) (v : Value) : Fr17 act (a.put (some k) v) := by
  obtain ⟨h1, h2, h3⟩ := h
  refine ⟨by simp [Act.put, h1], by simp [Act.put, h2], fun j hj => ?_⟩
  simp only [Act.put]
  rw [Array.getElem?_setIfInBounds_ne (by omega)]
  exact h3 j hj
theorem fr17_T {act a : Act} (h : Fr17 act a) {k : Nat} (hk : k < 45 ∨ 56 ≤ k) : T a k = T act k := by unfold T; rw [h.2.2 k hk]
theorem fr17_lit {act a : Act} (h : Fr17 act a) (hs : act.tmps.size = 65) : a = (((((((((((act.put (some 45) (T a 45)).put (some 46) (T a 46)).put (some 47) (T a 47)).put (some 48) (T a 48)).put (some 49) (T a 49)).put (some 50) (T a 50)).put (some 51) (T a 51)).put (some 52) (T a 52)).put (some 53) (T a 53)).put (some 54) (T a 54)).put (some 55) (T a 55)) := by
  obtain ⟨h1, h2, h3⟩ := h
  obtain ⟨tmps, defers⟩ := a
  simp only at h1 h2 h3
  simp only [Act.put, Act.mk.injEq]
  refine ⟨?_, h2⟩
  apply Array.ext_getElem?
  intro k
  have hT : ∀ j, j < 65 → tmps[j]? = some (T ⟨tmps, defers⟩ j) := fun j hj => by
    have : j < tmps.size := by omega
    simp [T, this]
  by_cases hk : k < 45 ∨ 56 ≤ k
  · rw [h3 k hk, Array.getElem?_setIfInBounds_ne (by omega), Array.getElem?_setIfInBounds_ne (by omega), Array.getElem?_setIfInBounds_ne (by omega), Array.getElem?_setIfInBounds_ne (by omega), Array.getElem?_setIfInBounds_ne (by omega), Array.getElem?_setIfInBounds_ne (by omega), Array.getElem?_setIfInBounds_ne (by omega), Array.getElem?_setIfInBounds_ne (by omega), Array.getElem?_setIfInBounds_ne (by omega), Array.getElem?_setIfInBounds_ne (by omega), Array.getElem?_setIfInBounds_ne (by omega)]
  · have hk' : k = 45 ∨ k = 46 ∨ k = 47 ∨ k = 48 ∨ k = 49 ∨ k = 50 ∨ k = 51 ∨ k = 52 ∨ k = 53 ∨ k = 54 ∨ k = 55 := by omega
    rcases hk' with rfl | rfl | rfl | rfl | rfl | rfl | rfl | rfl | rfl | rfl | rfl <;> rw [hT _ (by decide)] <;> simp [hs]
def R17 (B k : Nat) (s : ByteArray) (b : Nat) : Nat → Value → World → Prop
  | 0, v, _ => v = .pointer (some ⟨B, 0, none⟩)
  | 1, v, _ => v = .pointer (some ⟨B, 0, none⟩)
  | 2, v, _ => v = .pointer (some ⟨B, 0, none⟩)
  | 3, v, _ => v = .string s
  | 4, v, _ => v = .pointer (some ⟨B, 0, none⟩)
  | 5, v, _ => v = .pointer (some ⟨B, 0, none⟩)
  | 6, v, _ => v = .pointer (some ⟨B, 1, none⟩)
  | 7, v, _ => v = .int .i64 (k : Nat)
  | 8, v, _ => v = .int .u8 (b : Nat)
  | 9, v, w => ∃ g : Nat, v = .slice (some ⟨g, 0, none⟩) 1 1 ∧ BytesAt w (some ⟨g, 0, none⟩) [b]
  | 10, v, _ => v = setV (Oct.has [b])
  | _, _, _ => True
set_option maxRecDepth 100000 in
set_option maxHeartbeats 1000000 in
theorem reg17 {act : Act} {w : World} {s : ByteArray} {B R A d : Nat} {W : World} {k : Nat} {x : Oct.S} {Q : Exit → Act → World → Prop} (hT0 : T act 0 = .pointer (some ⟨B, 0, none⟩)) (hT3 : T act 3 = .pointer (some ⟨A, 0, none⟩)) (hsz : act.tmps.size = 65)
    (hS : At w s B R A d W k x) (hk : k < s.size)
    (K : ∀ a' W', Fr17 act a' → At w s B R A d W' k (Oct.has [byt s k]) → Q .normal a' W') : (Code.region 17 (opsOf Tryz.f86 17) true).wp Tryz.prog Q act W := by
  refine wp_region_last (by kernel_rfl) 11 (by kernel_rfl) (fun i => 45 + i) (R17 B k s (byt s k)) (Fr17 act) ?up ?f0 ?sz ?inj (by kernel_rfl) ?duty ⟨hsz, rfl, fun _ _ => rfl⟩
  case up =>
    intro i v w w' h hb
    match i, h with
    | 0, h => exact h
    | 1, h => exact h
    | 2, h => exact h
    | 3, h => exact h
    | 4, h => exact h
    | 5, h => exact h
    | 6, h => exact h
    | 7, h => exact h
    | 8, h => exact h
    | 9, ⟨g, h1, h2⟩ => exact ⟨g, h1, bytesAt_later hb h2⟩
    | 10, h => exact h
    | _ + 11, _ => trivial
  case f0 =>
    intro a i v hi h
    exact h.put (by omega) (by omega) v
  case sz =>
    intro a i hi h
    rw [h.1]
    show 45 + i < 65
    omega
  case inj =>
    intro i j _ _ h
    exact Nat.add_left_cancel h
  case duty =>
    have hTa : ∀ {a : Act}, Fr17 act a → T a 0 = .pointer (some ⟨B, 0, none⟩) := fun h => (fr17_T h (.inl (by decide))).trans hT0
    refine ⟨⟨fun _ => ⟨rfl, duty_free rfl (by simp) rfl fun a u hF hB hE Q => ?s0⟩, fun h => absurd h (by decide)⟩, ⟨fun _ => ⟨rfl, duty_free rfl (by simp) rfl fun a u hF hB hE Q => ?s1⟩, fun h => absurd h (by decide)⟩, ⟨fun _ => ⟨rfl, duty_free rfl (by simp) rfl fun a u hF hB hE Q => ?s2⟩, fun h => absurd h (by decide)⟩, ⟨fun _ => ⟨rfl, duty_free rfl (by simp) rfl fun a u hF hB hE Q => ?s3⟩, fun h => absurd h (by decide)⟩, ⟨fun _ => ⟨rfl, duty_free rfl (by simp) rfl fun a u hF hB hE Q => ?s4⟩, fun h => absurd h (by decide)⟩, ⟨fun _ => ⟨rfl, duty_free rfl (by simp) rfl fun a u hF hB hE Q => ?s5⟩, fun h => absurd h (by decide)⟩, ⟨fun _ => ⟨rfl, duty_free rfl (by simp) rfl fun a u hF hB hE Q => ?s6⟩, fun h => absurd h (by decide)⟩, ⟨fun _ => ⟨rfl, duty_free rfl (by simp) rfl fun a u hF hB hE Q => ?s7⟩, fun h => absurd h (by decide)⟩, ⟨fun _ => ⟨rfl, duty_free rfl (by simp) rfl fun a u hF hB hE Q => ?s8⟩, fun h => absurd h (by decide)⟩, ⟨fun _ => ⟨rfl, duty_free rfl (by simp) rfl fun a u hF hB hE Q => ?s9⟩, fun h => absurd h (by decide)⟩, ⟨fun _ => ⟨rfl, duty_free rfl (by simp) rfl fun a u hF hB hE Q => ?s10⟩, fun h => absurd h (by decide)⟩, ⟨fun h => absurd h (by decide), fun _ => ⟨rfl, by simp, fun a u hF hB hR => ?last⟩⟩, trivial⟩
    case s0 => exact ob_move rfl (hTa hF) rfl
    case s1 => exact ob_nil rfl (hE ⟨0, .data⟩ (by simp) rfl) rfl
    case s2 => exact ob_text rfl (hE ⟨1, .data⟩ (by simp) rfl) rfl
    case s3 => exact ob_load9 rfl (hE ⟨2, .data⟩ (by simp) rfl) (hS.rd.later hB).cells.1 rfl
    case s4 => exact ob_move rfl (hTa hF) rfl
    case s5 => exact ob_nil rfl (hE ⟨4, .data⟩ (by simp) rfl) rfl
    case s6 => exact ob_at rfl (hE ⟨5, .data⟩ (by simp) rfl) rfl
    case s7 => exact ob_load3 rfl (hE ⟨6, .data⟩ (by simp) rfl) (hS.rd.later hB).cells.2.1 rfl
    case s8 => exact ob_index9 rfl (hE ⟨3, .data⟩ (by simp) rfl) (hE ⟨7, .data⟩ (by simp) rfl) hk (by show _ = _; rw [byt_eq hk])
    case s9 => exact ob_slice1b rfl rfl (hE ⟨8, .data⟩ (by simp) rfl) (fun g w' h => ⟨g, rfl, h⟩)
    case s10 =>
      obtain ⟨g, h1, h2⟩ := hE ⟨9, .data⟩ (by simp) rfl
      exact ob_call1 rfl enters66 h1 ((of_any _ 1 1 [byt s k] u rfl (by simp [maxLen]) h2 (by intro b hb; simp at hb; rw [hb]; exact byt_lt s k)).mono (fun _ w' h => ⟨_, h.1, h.2, rfl⟩))
    case last =>
      have hS0 := hS.later hB
      have hv : T a 55 = setV (Oct.has [byt s k]) := hR 10 (by decide)
      have hp := (fr17_T hF (k := 3) (by omega)).trans hT3
      obtain ⟨c0, c1, c2, c3⟩ := hS0.box.cells
      have f0 := hS0.box.frozen 0
      have f1 := hS0.box.frozen 1
      have f2 := hS0.box.frozen 2
      have f3 := hS0.box.frozen 3
      refine ob_skip (w' := put4 u A (Oct.has [byt s k])) ?_ ?_
      · unfold T at hv hp
        unfold setV at hv
        simp [execOp, Act.eval, hv, hp, go_sem, c0, c1, c2, c3, f0, f1, f2, f3, put4]
      · exact K _ _ hF (hS0.put _)
end Go.Proofs.YtmjnobdlgbojoaaGreatDoor


namespace Go.Proofs.YtmjnobdlgbojoaaGreatDoor
open Go.RowKit
attribute [local go_sem ↓] Go.wp_at_zero Go.wp_at_succ
set_option maxRecDepth 4000 in
set_option maxHeartbeats 8000000 in
theorem atom_walk (n : Nat) (H : ∀ m, m < n → GroupOK m) : AtomOK n := by
  intro B i d s w pre hlt hout
  obtain ⟨k, rfl⟩ : ∃ k, n = k + 1 := by
    cases n with
    | zero => exact absurd (by simp [atom]) hout
    | succ k => exact ⟨k, rfl⟩
  have HO : Hid (atom s (k + 1) d i ≠ .out) := hout
  have HP : Hid (∀ m, m < k + 1 → GroupOK m) := H
  have HPC : Hid (atom s (k + 1) d i = if byt s i ∈ [42, 43, 63, 123] then .bad i 44
    else if byt s i = 40 then group s k d i
    else if byt s i = 91 then
      match setOf s k i with
      | .ok a j => .ok (setT a) j
      | .bad a e => .bad a e
      | .out => .out
    else if byt s i = 46 then .ok (setT ordinary) (i + 1)
    else if byt s i = 92 then
      if i + 1 = s.size || !(escapable (byt s (i + 1))) then .bad i 46 else .ok (setT (Oct.has [byt s (i + 1)])) (i + 2)
    else .ok (setT (Oct.has [byt s i])) (i + 1)) := by show _ = _; rw [atom]; rfl
  have hi := pre.hi
  have hs := pre.hs
  have hd := pre.hd
  have HB0 : Hid (2 ≤ B) := pre.hB0
  have HBW : Hid (B < w.heap.size) := pre.rd.lt
  obtain ⟨w0, hw0⟩ : ∃ w0, w0 = w.alloc (.cells #[.int .i64 0, .int .u64 0, .int .u64 0, .int .u64 0, .int .u64 0, .slice none 0 0, .int .i64 0, .int .i64 0] 30) := ⟨_, rfl⟩
  obtain ⟨w1, hw1⟩ : ∃ w1, w1 = w0.alloc (.cells #[.int .u64 0, .int .u64 0, .int .u64 0, .int .u64 0] 28) := ⟨_, rfl⟩
  have z0 : w0.heap.size = w.heap.size + 1 := by rw [hw0]; simp
  have k0 : Below w.heap.size w w0 := by rw [hw0]; exact (Below.refl _ _).alloc (Nat.le_refl _) _
  have k1 : Below w0.heap.size w0 w1 := by rw [hw1]; exact (Below.refl _ _).alloc (Nat.le_refl _) _
  have HS1 : Hid (At w s B w.heap.size (w.heap.size + 1) d w1 i Oct.none) :=
    ⟨by have hb0 : NB w0 w.heap.size zeroNd := (by rw [hw0]; exact nb_zero w); exact hb0.later k1, by have hb1 : SB w1 w0.heap.size Oct.none := (by rw [hw1]; exact sb_zero w0); rw [z0] at hb1; exact hb1, (pre.rd.later k0).later k1, (pre.gm.later k0).later k1, grown_below (grown_below (grown_refl _ _) k0) k1, rfl, rfl, pre.rd.lt, pre.hB0⟩
  have HW1 : Hid (w0.alloc (.cells #[.int .u64 0, .int .u64 0, .int .u64 0, .int .u64 0] 28) = w1) := hw1.symm
  have HW0 : Hid (w.alloc (.cells #[.int .i64 0, .int .u64 0, .int .u64 0, .int .u64 0, .int .u64 0, .slice none 0 0, .int .i64 0, .int .i64 0] 30) = w0) := hw0.symm
  obtain ⟨R, hR⟩ : ∃ R, R = w.heap.size := ⟨_, rfl⟩
  obtain ⟨A, hA⟩ : ∃ A, A = w.heap.size + 1 := ⟨_, rfl⟩
  rw [← hA, ← hR] at HS1
  have HRR : Hid (R = w.heap.size) := hR
  have HAA : Hid (A = w.heap.size + 1) := hA
  clear hw0 hw1 z0 k0 k1 pre hout H hR hA
  obtain ⟨c0, c1, c2⟩ := HS1.out.rd.cells
  have hi3 : i ≤ 1024 := by omega
  have hlt' : (i : Int) < (s.size : Int) := by omega
  go_enter Tryz.func86, Tryz.ntmps86
  go_upto_region 2 with fail
  rw [HW0.out, HW1.out, ← HRR.out, show R + 1 = A by rw [HAA.out, HRR.out]]
  clear HW0 HW1
  go_quiet (fail)
  have HS2 : Hid (At w s B R A d (w1.drewN nq) i Oct.none) := HS1.out.later (below_drewN _ _ _)
  obtain ⟨w2, hw2⟩ : ∃ w2, w2 = w1.drewN nq := ⟨_, rfl⟩
  rw [← hw2] at HS2
  have HW2 : Hid (w2 = _) := hw2
  clear hw2 c0 c1 c2 HS1
  go_upto_region 3 with fail
  rw [← HW2.out]
  clear HW2
  by_cases h42 : s[i].toNat = 42
  · have g42 : ((s[i].toNat : Int) == 42) = true := by simp; omega
    have HX : Hid (atom s (k + 1) d i = .bad i 44) := by show _ = _; rw [HPC.out]; simp [byt_eq hlt, h42]
    clear h42
    obtain ⟨c0, c1, c2⟩ := HS2.out.rd.cells
    go_wp2_with fail
    refine (giveUp_any i 44 _).mono ?_
    rintro e u1 ⟨rfl, k1⟩
    go_wp2
    refine ⟨rfl, ?_⟩
    unfold Reads
    rw [HX.out]
    exact ⟨rfl, grown_below HS2.out.grown k1⟩
  · have g42 : ((s[i].toNat : Int) == 42) = false := by simp; omega
    by_cases h43 : s[i].toNat = 43
    · have g43 : ((s[i].toNat : Int) == 43) = true := by simp; omega
      have HX : Hid (atom s (k + 1) d i = .bad i 44) := by show _ = _; rw [HPC.out]; simp [byt_eq hlt, h43]
      clear h43
      obtain ⟨c0, c1, c2⟩ := HS2.out.rd.cells
      go_wp2_with fail
      refine (giveUp_any i 44 _).mono ?_
      rintro e u1 ⟨rfl, k1⟩
      go_wp2
      refine ⟨rfl, ?_⟩
      unfold Reads
      rw [HX.out]
      exact ⟨rfl, grown_below HS2.out.grown k1⟩
    · have g43 : ((s[i].toNat : Int) == 43) = false := by simp; omega
      by_cases h63 : s[i].toNat = 63
      · have g63 : ((s[i].toNat : Int) == 63) = true := by simp; omega
        have HX : Hid (atom s (k + 1) d i = .bad i 44) := by show _ = _; rw [HPC.out]; simp [byt_eq hlt, h63]
        clear h63
        obtain ⟨c0, c1, c2⟩ := HS2.out.rd.cells
        go_wp2_with fail
        refine (giveUp_any i 44 _).mono ?_
        rintro e u1 ⟨rfl, k1⟩
        go_wp2
        refine ⟨rfl, ?_⟩
        unfold Reads
        rw [HX.out]
        exact ⟨rfl, grown_below HS2.out.grown k1⟩
      · have g63 : ((s[i].toNat : Int) == 63) = false := by simp; omega
        by_cases h123 : s[i].toNat = 123
        · have g123 : ((s[i].toNat : Int) == 123) = true := by simp; omega
          have HX : Hid (atom s (k + 1) d i = .bad i 44) := by show _ = _; rw [HPC.out]; simp [byt_eq hlt, h123]
          clear h123
          obtain ⟨c0, c1, c2⟩ := HS2.out.rd.cells
          go_wp2_with fail
          refine (giveUp_any i 44 _).mono ?_
          rintro e u1 ⟨rfl, k1⟩
          go_wp2
          refine ⟨rfl, ?_⟩
          unfold Reads
          rw [HX.out]
          exact ⟨rfl, grown_below HS2.out.grown k1⟩
        · have g123 : ((s[i].toNat : Int) == 123) = false := by simp; omega
          by_cases h40 : s[i].toNat = 40
          · have g40 : ((s[i].toNat : Int) == 40) = true := by simp; omega
            have HX : Hid (atom s (k + 1) d i = group s k d i) := by show _ = _; rw [HPC.out]; simp [byt_eq hlt, h40]
            clear h42 h43 h63 h123 h40
            have hpo : group s k d i ≠ .out := fun e => HO.out (by rw [HX.out, e])
            go_wp2_with fail
            refine (HP.out k (by omega) B i d s w2 ⟨HS2.out.rd, by omega, hs, HS2.out.gm, HB0.out, hd⟩ hlt hpo).mono ?_
            intro e w3 h3
            clear hpo
            cases hc : group s k d i with
            | out => rw [hc] at h3; exact h3.elim
            | bad a c =>
              rw [hc] at h3 HX
              obtain ⟨rfl, hg3⟩ := h3
              have HG3 : Hid (w.grownBy w3 (some B)) := grown_trans HS2.out.grown hg3
              clear hc hg3
              go_wp2
              refine ⟨rfl, ?_⟩
              unfold Reads
              rw [HX.out]
              exact ⟨rfl, HG3.out⟩
            | ok t j =>
              rw [hc] at h3 HX
              obtain ⟨hj, v, rfl, ⟨x, rfl, hx⟩, hr3, hg3⟩ := h3
              have hz2 : w.heap.size + 1 ≤ w2.heap.size := by have := HS2.out.box.lt; have := HAA.out; omega
              have HX3 : Hid (NodeAt (fun b => w.heap.size + 1 ≤ b) w3 t x) := hx.keep (fun b hb _ => by omega) (fun _ _ _ => rfl)
              have HT : Hid (At w s B R A d w3 j Oct.none) := HS2.out.read hg3 hr3
              clear hc hg3 hr3 hx hz2
              obtain ⟨z0, z1, z2, z3, z4, z5, z6, z7⟩ := HT.out.res.cells
              have y0 := HT.out.res.frozen 0
              have y1 := HT.out.res.frozen 1
              have y2 := HT.out.res.frozen 2
              have y3 := HT.out.res.frozen 3
              have y4 := HT.out.res.frozen 4
              have y5 := HT.out.res.frozen 5
              have y6 := HT.out.res.frozen 6
              have y7 := HT.out.res.frozen 7
              unfold Nd.val
              go_wp2
              refine post_node Tryz.f86 2 rfl rfl rfl (HT.out.res.put8 x) ?_
              unfold Reads
              rw [HX.out]
              have hRR := HRR.out
              have hBW := HBW.out
              exact ⟨hj, _, rfl, ⟨_, rfl, HX3.out.keep (fun b hb _ => by omega) (fun b hb _ => heap_put8 _ R _ b (by omega))⟩, put8_rb HT.out.rd (by omega) _, put8_grown HT.out.grown (by omega) _⟩
          · have g40 : ((s[i].toNat : Int) == 40) = false := by simp; omega
            by_cases h91 : s[i].toNat = 91
            · have g91 : ((s[i].toNat : Int) == 91) = true := by simp; omega
              have HXX : Hid (atom s (k + 1) d i = match setOf s k i with
                | .ok a j => .ok (setT a) j
                | .bad a e => .bad a e
                | .out => .out) := by show _ = _; rw [HPC.out]; simp [byt_eq hlt, h91]
              clear h42 h43 h63 h123 h40 h91
              have hpo : setOf s k i ≠ .out := fun e => HO.out (by rw [HXX.out, e])
              go_wp2_with fail
              refine (set_walk B i d k s w2 HS2.out.rd hlt hs HS2.out.gm HB0.out hpo).mono ?_
              intro e w3 h3
              clear hpo
              cases hc : setOf s k i with
              | out => rw [hc] at h3; exact h3.elim
              | bad a c =>
                rw [hc] at h3 HXX
                obtain ⟨rfl, hg3⟩ := h3
                have HG3 : Hid (w.grownBy w3 (some B)) := grown_trans HS2.out.grown hg3
                clear hc hg3
                go_wp2
                refine ⟨rfl, ?_⟩
                unfold Reads
                rw [HXX.out]
                exact ⟨rfl, HG3.out⟩
              | ok x j =>
                rw [hc] at h3 HXX
                obtain ⟨hj, v, rfl, rfl, hr3, hg3⟩ := h3
                have HX : Hid (atom s (k + 1) d i = .ok (setT x) j) := HXX.out
                have HS3 : Hid (At w s B R A d w3 j Oct.none) := HS2.out.read hg3 hr3
                have HT : Hid (At w s B R A d (put4 w3 A x) j x) := HS3.out.put x
                clear hc hg3 hr3
                obtain ⟨b0, b1, b2, b3⟩ := HS3.out.box.cells
                have q0 := HS3.out.box.frozen 0
                have q1 := HS3.out.box.frozen 1
                have q2 := HS3.out.box.frozen 2
                have q3 := HS3.out.box.frozen 3
                unfold setV
                go_upto_region 19 with fail
                obtain ⟨w4, hw4⟩ : ∃ w4, w4 = put4 w3 A x := ⟨_, rfl⟩
                rw [← hw4] at HT
                show Code.wp _ _ _ _ (put4 w3 A x)
                rw [← hw4]
                clear hw4 b0 b1 b2 b3 q0 q1 q2 q3
                obtain ⟨b0, b1, b2, b3⟩ := HT.out.box.cells
                obtain ⟨z0, z1, z2, z3, z4, z5, z6, z7⟩ := HT.out.res.cells
                have y0 := HT.out.res.frozen 0
                have y1 := HT.out.res.frozen 1
                have y2 := HT.out.res.frozen 2
                have y3 := HT.out.res.frozen 3
                have y4 := HT.out.res.frozen 4
                have y5 := HT.out.res.frozen 5
                have y6 := HT.out.res.frozen 6
                have y7 := HT.out.res.frozen 7
                go_wp2
                refine post_node Tryz.f86 2 rfl rfl rfl (HT.out.res.put8 ⟨(2 : Nat), x, none, 0, 0, 0, 0⟩) ?_
                rw [HX.out]
                exact HT.out.fin (by omega)
            · have g91 : ((s[i].toNat : Int) == 91) = false := by simp; omega
              by_cases h46 : s[i].toNat = 46
              · have g46 : ((s[i].toNat : Int) == 46) = true := by simp; omega
                have HX : Hid (atom s (k + 1) d i = .ok (setT ordinary) (i + 1)) := by show _ = _; rw [HPC.out]; simp [byt_eq hlt, h46]
                clear h42 h43 h63 h123 h40 h91 h46
                go_wp2_with fail
                refine (ordinary_any w2).mono ?_
                rintro e w3 ⟨rfl, k3⟩
                have HS3 : Hid (At w s B R A d w3 i Oct.none) := HS2.out.later k3
                have HS4 : Hid (At w s B R A d (put4 w3 A ordinary) i ordinary) := HS3.out.put ordinary
                clear k3
                obtain ⟨b0, b1, b2, b3⟩ := HS3.out.box.cells
                have q0 := HS3.out.box.frozen 0
                have q1 := HS3.out.box.frozen 1
                have q2 := HS3.out.box.frozen 2
                have q3 := HS3.out.box.frozen 3
                unfold setV
                go_upto_region 15 with fail
                obtain ⟨w4, hw4⟩ : ∃ w4, w4 = put4 w3 A ordinary := ⟨_, rfl⟩
                rw [← hw4] at HS4
                show Code.wp _ _ _ _ (put4 w3 A ordinary)
                rw [← hw4]
                clear hw4 b0 b1 b2 b3 q0 q1 q2 q3
                obtain ⟨c0, c1, c2⟩ := HS4.out.rd.cells
                have f1 := HS4.out.rd.frozen 1
                have HR9 : RB (w4.setCell ⟨B, 1, none⟩ (.int .i64 ((i : Int) + 1))) B s (i + 1) d := HS4.out.rd.at (i + 1)
                have HT : Hid (At w s B R A d (w4.setCell ⟨B, 1, none⟩ (.int .i64 ((i : Int) + 1))) (i + 1) _) := HS4.out.read (grown_set _ _ _ _) HR9
                clear HR9
                go_upto_region 19 with fail
                obtain ⟨w9, hw9⟩ : ∃ w9, w9 = w4.setCell ⟨B, 1, none⟩ (.int .i64 ((i : Int) + 1)) := ⟨_, rfl⟩
                rw [← hw9] at HT ⊢
                clear hw9 c0 c1 c2 f1
                obtain ⟨b0, b1, b2, b3⟩ := HT.out.box.cells
                obtain ⟨z0, z1, z2, z3, z4, z5, z6, z7⟩ := HT.out.res.cells
                have y0 := HT.out.res.frozen 0
                have y1 := HT.out.res.frozen 1
                have y2 := HT.out.res.frozen 2
                have y3 := HT.out.res.frozen 3
                have y4 := HT.out.res.frozen 4
                have y5 := HT.out.res.frozen 5
                have y6 := HT.out.res.frozen 6
                have y7 := HT.out.res.frozen 7
                go_wp2
                refine post_node Tryz.f86 2 rfl rfl rfl (HT.out.res.put8 ⟨(2 : Nat), ordinary, none, 0, 0, 0, 0⟩) ?_
                rw [HX.out]
                exact HT.out.fin (by omega)
              · have g46 : ((s[i].toNat : Int) == 46) = false := by simp; omega
                by_cases h92 : s[i].toNat = 92
                · have g92 : ((s[i].toNat : Int) == 92) = true := by simp; omega
                  have HXX : Hid (atom s (k + 1) d i = if i + 1 = s.size || !(escapable (byt s (i + 1))) then .bad i 46 else .ok (setT (Oct.has [byt s (i + 1)])) (i + 2)) := by show _ = _; rw [HPC.out]; simp [byt_eq hlt, h92]
                  clear h42 h43 h63 h123 h40 h91 h46 h92
                  go_wp2_with fail
                  refine (escape_any B i d s w2 HS2.out.rd hlt hs).mono ?_
                  intro e w3 h3
                  unfold escape at h3
                  by_cases hb : (i + 1 = s.size || !(escapable (byt s (i + 1)))) = true
                  · rw [if_pos hb] at h3 HXX
                    obtain ⟨rfl, hg3⟩ := h3
                    have HG3 : Hid (w.grownBy w3 (some B)) := grown_trans HS2.out.grown hg3
                    clear hb hg3
                    go_wp2
                    refine ⟨rfl, ?_⟩
                    unfold Reads
                    rw [HXX.out]
                    exact ⟨rfl, HG3.out⟩
                  · rw [if_neg hb] at h3 HXX
                    obtain ⟨hj, v, rfl, rfl, hr3, hg3⟩ := h3
                    have HS3 : Hid (At w s B R A d w3 (i + 1) Oct.none) := HS2.out.read hg3 hr3
                    have hk0 : i + 1 < s.size := by
                      have h1 : ¬ (i + 1 = s.size) := fun e => hb (by simp [e])
                      omega
                    clear hb hg3 hr3 hj
                    obtain ⟨j, hj⟩ : ∃ j, j = i + 1 := ⟨_, rfl⟩
                    have HX : Hid (atom s (k + 1) d i = .ok (setT (Oct.has [byt s j])) (j + 1)) := by show _ = _; rw [HXX.out, hj]
                    rw [← hj] at HS3 hk0
                    have hj3 : j ≤ 1024 := by omega
                    clear hj HXX
                    go_upto_region 17 with fail
                    refine reg17 (w := w) (s := s) (B := B) (R := R) (A := A) (d := d) rfl rfl rfl HS3.out hk0 ?_
                    intro a' W' hfr hat
                    rw [fr17_lit hfr rfl]
                    have HA : Hid (At w s B R A d W' j (Oct.has [byt s j])) := hat
                    obtain ⟨v45, e45⟩ : ∃ v, v = T a' 45 := ⟨_, rfl⟩
                    obtain ⟨v46, e46⟩ : ∃ v, v = T a' 46 := ⟨_, rfl⟩
                    obtain ⟨v47, e47⟩ : ∃ v, v = T a' 47 := ⟨_, rfl⟩
                    obtain ⟨v48, e48⟩ : ∃ v, v = T a' 48 := ⟨_, rfl⟩
                    obtain ⟨v49, e49⟩ : ∃ v, v = T a' 49 := ⟨_, rfl⟩
                    obtain ⟨v50, e50⟩ : ∃ v, v = T a' 50 := ⟨_, rfl⟩
                    obtain ⟨v51, e51⟩ : ∃ v, v = T a' 51 := ⟨_, rfl⟩
                    obtain ⟨v52, e52⟩ : ∃ v, v = T a' 52 := ⟨_, rfl⟩
                    obtain ⟨v53, e53⟩ : ∃ v, v = T a' 53 := ⟨_, rfl⟩
                    obtain ⟨v54, e54⟩ : ∃ v, v = T a' 54 := ⟨_, rfl⟩
                    obtain ⟨v55, e55⟩ : ∃ v, v = T a' 55 := ⟨_, rfl⟩
                    rw [← e45, ← e46, ← e47, ← e48, ← e49, ← e50, ← e51, ← e52, ← e53, ← e54, ← e55]
                    clear e45 e46 e47 e48 e49 e50 e51 e52 e53 e54 e55 hfr hat
                    rename_i hK2
                    obtain ⟨c0, c1, c2⟩ := HA.out.rd.cells
                    have f1 := HA.out.rd.frozen 1
                    have HR9 : RB (W'.setCell ⟨B, 1, none⟩ (.int .i64 ((j : Int) + 1))) B s (j + 1) d := HA.out.rd.at (j + 1)
                    have HT : Hid (At w s B R A d (W'.setCell ⟨B, 1, none⟩ (.int .i64 ((j : Int) + 1))) (j + 1) _) := HA.out.read (grown_set _ _ _ _) HR9
                    clear HR9
                    go_upto_region 19 with fail
                    obtain ⟨w9, hw9⟩ : ∃ w9, w9 = W'.setCell ⟨B, 1, none⟩ (.int .i64 ((j : Int) + 1)) := ⟨_, rfl⟩
                    rw [← hw9] at HT ⊢
                    clear hw9 c0 c1 c2 f1
                    obtain ⟨b0, b1, b2, b3⟩ := HT.out.box.cells
                    obtain ⟨z0, z1, z2, z3, z4, z5, z6, z7⟩ := HT.out.res.cells
                    have y0 := HT.out.res.frozen 0
                    have y1 := HT.out.res.frozen 1
                    have y2 := HT.out.res.frozen 2
                    have y3 := HT.out.res.frozen 3
                    have y4 := HT.out.res.frozen 4
                    have y5 := HT.out.res.frozen 5
                    have y6 := HT.out.res.frozen 6
                    have y7 := HT.out.res.frozen 7
                    go_wp2
                    refine post_node Tryz.f86 2 rfl rfl rfl (HT.out.res.put8 ⟨(2 : Nat), Oct.has [byt s j], none, 0, 0, 0, 0⟩) ?_
                    rw [HX.out]
                    exact HT.out.fin (by omega)
                · have g92 : ((s[i].toNat : Int) == 92) = false := by simp; omega
                  have HX : Hid (atom s (k + 1) d i = .ok (setT (Oct.has [byt s i])) (i + 1)) := by show _ = _; rw [HPC.out]; simp [byt_eq hlt, h42, h43, h63, h123, h40, h91, h46, h92]
                  clear h42 h43 h63 h123 h40 h91 h46 h92
                  go_upto_region 17 with fail
                  refine reg17 (w := w) (s := s) (B := B) (R := R) (A := A) (d := d) rfl rfl rfl HS2.out hlt ?_
                  intro a' W' hfr hat
                  rw [fr17_lit hfr rfl]
                  have HA : Hid (At w s B R A d W' i (Oct.has [byt s i])) := hat
                  obtain ⟨v45, e45⟩ : ∃ v, v = T a' 45 := ⟨_, rfl⟩
                  obtain ⟨v46, e46⟩ : ∃ v, v = T a' 46 := ⟨_, rfl⟩
                  obtain ⟨v47, e47⟩ : ∃ v, v = T a' 47 := ⟨_, rfl⟩
                  obtain ⟨v48, e48⟩ : ∃ v, v = T a' 48 := ⟨_, rfl⟩
                  obtain ⟨v49, e49⟩ : ∃ v, v = T a' 49 := ⟨_, rfl⟩
                  obtain ⟨v50, e50⟩ : ∃ v, v = T a' 50 := ⟨_, rfl⟩
                  obtain ⟨v51, e51⟩ : ∃ v, v = T a' 51 := ⟨_, rfl⟩
                  obtain ⟨v52, e52⟩ : ∃ v, v = T a' 52 := ⟨_, rfl⟩
                  obtain ⟨v53, e53⟩ : ∃ v, v = T a' 53 := ⟨_, rfl⟩
                  obtain ⟨v54, e54⟩ : ∃ v, v = T a' 54 := ⟨_, rfl⟩
                  obtain ⟨v55, e55⟩ : ∃ v, v = T a' 55 := ⟨_, rfl⟩
                  rw [← e45, ← e46, ← e47, ← e48, ← e49, ← e50, ← e51, ← e52, ← e53, ← e54, ← e55]
                  clear e45 e46 e47 e48 e49 e50 e51 e52 e53 e54 e55 hfr hat
                  rename_i hK2
                  obtain ⟨c0, c1, c2⟩ := HA.out.rd.cells
                  have f1 := HA.out.rd.frozen 1
                  have HR9 : RB (W'.setCell ⟨B, 1, none⟩ (.int .i64 ((i : Int) + 1))) B s (i + 1) d := HA.out.rd.at (i + 1)
                  have HT : Hid (At w s B R A d (W'.setCell ⟨B, 1, none⟩ (.int .i64 ((i : Int) + 1))) (i + 1) _) := HA.out.read (grown_set _ _ _ _) HR9
                  clear HR9
                  go_upto_region 19 with fail
                  obtain ⟨w9, hw9⟩ : ∃ w9, w9 = W'.setCell ⟨B, 1, none⟩ (.int .i64 ((i : Int) + 1)) := ⟨_, rfl⟩
                  rw [← hw9] at HT ⊢
                  clear hw9 c0 c1 c2 f1
                  obtain ⟨b0, b1, b2, b3⟩ := HT.out.box.cells
                  obtain ⟨z0, z1, z2, z3, z4, z5, z6, z7⟩ := HT.out.res.cells
                  have y0 := HT.out.res.frozen 0
                  have y1 := HT.out.res.frozen 1
                  have y2 := HT.out.res.frozen 2
                  have y3 := HT.out.res.frozen 3
                  have y4 := HT.out.res.frozen 4
                  have y5 := HT.out.res.frozen 5
                  have y6 := HT.out.res.frozen 6
                  have y7 := HT.out.res.frozen 7
                  go_wp2
                  refine post_node Tryz.f86 2 rfl rfl rfl (HT.out.res.put8 ⟨(2 : Nat), Oct.has [byt s i], none, 0, 0, 0, 0⟩) ?_
                  rw [HX.out]
                  exact HT.out.fin (by omega)
end Go.Proofs.YtmjnobdlgbojoaaGreatDoor
