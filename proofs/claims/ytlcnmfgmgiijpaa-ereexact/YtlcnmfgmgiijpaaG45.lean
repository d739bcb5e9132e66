/- The document's repeat of layer 4. -/
import Derived.Test.YtlcnmfgmgiijpaaG41
import Derived.Test.YtlcnmfgmgiijpaaG44
namespace Go.Proofs.Ytlcnmfgmgiijpaa
open Go.RowKit
attribute [local go_sem ↓] Go.wp_at_zero Go.wp_at_succ

/-- a tree in memory between two places -/
def NewB (base hi : Nat) (w : World) (t : Tr) (x : Nd) : Prop := NodeAt (fun b => base ≤ b ∧ b < hi ∧ TyB w 28 b) w t x
theorem NewT.old {base : Nat} {w : World} {t : Tr} {x : Nd} (h : NewT base w t x) : NewB base w.heap.size w t x := NodeAt.keep h (fun _ hX hlt => ⟨hX.1, hlt, hX.2⟩) (fun _ _ _ => rfl)
theorem NewB.keep {base hi : Nat} {w w' : World} {t : Tr} {x : Nd} (h : NewB base hi w t x) (hk : ∀ b, b < hi → b < w.heap.size → TyB w 28 b → w'.heap[b]? = w.heap[b]?) : NewB base hi w' t x :=
  NodeAt.keep h (fun b hX hlt => ⟨hX.1, hX.2.1, hX.2.2.same (hk b hX.2.1 hlt hX.2.2)⟩) (fun b hX hlt => hk b hX.2.1 hlt hX.2.2)
theorem NewB.new {base hi : Nat} {w : World} {t : Tr} {x : Nd} (h : NewB base hi w t x) : NewT base w t x := NodeAt.keep h (fun _ hX _ => ⟨hX.1, hX.2.2⟩) (fun _ _ _ => rfl)
/-- THE STATE of repeat: the atom's box, the result, the reader. -/
structure Rq (w : World) (s : ByteArray) (b0 B A R d base : Nat) (t : Tr) (x : Nd) (u : World) (i : Nat) : Prop where
  box : NB u A x
  res : NB u R zeroNd
  rd : RR u b0 B s i d 0 0
  fr : Fr b0 B w u
  node : NewB base w.heap.size u t x
  hR : w.heap.size ≤ R
  hb : base ≤ w.heap.size
section
variable {w : World} {s : ByteArray} {b0 B A R d base : Nat} {t : Tr} {x : Nd} {u u' : World} {i : Nat}
theorem Rq.later (h : Rq w s b0 B A R d base t x u i) (hb : Below u.heap.size u u') : Rq w s b0 B A R d base t x u' i :=
  ⟨h.box.later hb, h.res.later hb, h.rd.later hb, h.fr.later hb, h.node.keep (fun b _ hlt _ => hb.block b hlt), h.hR, h.hb⟩
theorem Rq.at (h : Rq w s b0 B A R d base t x u i) (j : Nat) : Rq w s b0 B A R d base t x (u.setCell ⟨B, 1, none⟩ (.int .i64 (j : Nat))) j :=
  ⟨h.box.fr h.rd (Fr.set _ _ _ _ _), h.res.fr h.rd (Fr.set _ _ _ _ _), h.rd.at j, h.fr.trans (Fr.set _ _ _ _ _), h.node.keep (fun b _ _ ht => Below.heap_setCell u ⟨B, 1, none⟩ _ b (h.rd.ne ht (by decide))), h.hR, h.hb⟩
theorem Rq.end_ (h : Rq w s b0 B A R d base t x u i) (l m : Int) {r : Rs Tr} (hr : r = .ok (times t l m) i) (hi : i ≤ s.size) : NB (u.alloc (.cells #[.int .i64 x.k, .int .u64 (Oct.word x.s 0 : Nat), .int .u64 (Oct.word x.s 1 : Nat), .int .u64 (Oct.word x.s 2 : Nat), .int .u64 (Oct.word x.s 3 : Nat), .slice x.a x.n x.c, .int .i64 x.mn, .int .i64 x.mx] 28)) R zeroNd ∧ RefT base w b0 B s d r (.returned (Nd.val ⟨(5 : Nat), Oct.none, some ⟨u.heap.size, 0, none⟩, 1, 1, l, m⟩)) (put8 (u.alloc (.cells #[.int .i64 x.k, .int .u64 (Oct.word x.s 0 : Nat), .int .u64 (Oct.word x.s 1 : Nat), .int .u64 (Oct.word x.s 2 : Nat), .int .u64 (Oct.word x.s 3 : Nat), .slice x.a x.n x.c, .int .i64 x.mn, .int .i64 x.mx] 28)) R ⟨(5 : Nat), Oct.none, some ⟨u.heap.size, 0, none⟩, 1, 1, l, m⟩) := by
  have hal : Below u.heap.size u (u.alloc (.cells #[.int .i64 x.k, .int .u64 (Oct.word x.s 0 : Nat), .int .u64 (Oct.word x.s 1 : Nat), .int .u64 (Oct.word x.s 2 : Nat), .int .u64 (Oct.word x.s 3 : Nat), .slice x.a x.n x.c, .int .i64 x.mn, .int .i64 x.mx] 28)) := (Below.refl _ _).alloc (Nat.le_refl _) _
  have hp := h.later hal
  refine ⟨hp.res, fin_ok hr hi _ _ ?_ (hp.rd.put8 hp.res _) (hp.fr.put8 hp.hR _)⟩
  have hRu := h.res.lt
  have hsz := h.fr.size
  have hb := h.hb
  have hR := h.hR
  have hrow : RowAt (fun b => base ≤ b ∧ b ≠ R ∧ TyB (u.alloc (.cells #[.int .i64 x.k, .int .u64 (Oct.word x.s 0 : Nat), .int .u64 (Oct.word x.s 1 : Nat), .int .u64 (Oct.word x.s 2 : Nat), .int .u64 (Oct.word x.s 3 : Nat), .slice x.a x.n x.c, .int .i64 x.mn, .int .i64 x.mx] 28)) 28 b) (u.alloc (.cells #[.int .i64 x.k, .int .u64 (Oct.word x.s 0 : Nat), .int .u64 (Oct.word x.s 1 : Nat), .int .u64 (Oct.word x.s 2 : Nat), .int .u64 (Oct.word x.s 3 : Nat), .slice x.a x.n x.c, .int .i64 x.mn, .int .i64 x.mx] 28)) (some ⟨u.heap.size, 0, none⟩) [x] := row_new x ⟨by omega, by omega, ⟨_, _, heap_alloc_new u _⟩⟩
  refine node_one 5 l m 1 (hrow.keep (fun b hb _ => ⟨hb.1, hb.2.2.same (heap_put8 _ R _ b hb.2.1)⟩) (fun b hb _ => heap_put8 _ R _ b hb.2.1)) ?_
  exact (hp.node.keep (fun b hlt _ _ => heap_put8 _ R _ b (by omega))).new
theorem Rq.back (h : Rq w s b0 B A R d base t x u i) {r : Rs Tr} (hr : r = .ok t i) (hi : i ≤ s.size) : RefT base w b0 B s d r (.returned x.val) (put8 u R x) :=
  fin_ok hr hi _ _ (h.node.keep (fun b hlt _ _ => heap_put8 _ R _ b (by have := h.hR; omega))).new (h.rd.put8 h.res _) (h.fr.put8 h.hR _)
end
theorem newT_zero (base : Nat) (w : World) : NewT base w (.mk 0 Oct.none [] 0 0) zeroNd := NodeAt.leaf _ w 0 Oct.none 0 0 none 0
theorem rfault_lit (b0 B i d c a : Nat) (C : Int) (hC : C = (c : Nat)) (s : ByteArray) (w : World) (h : RR w b0 B s i d 0 0) : Calls Try.prog 28 #[.pointer (some ⟨B, 0, none⟩), .int .i64 C, .int .i64 (a : Nat)] w fun x w' => x = .returned zeroNd.val ∧ RR w' b0 B s i d c a ∧ Fr b0 B w w' := by
  subst hC
  exact rfault_any b0 B i d c a s w h
set_option maxRecDepth 4000 in
set_option maxHeartbeats 8000000 in
theorem rrepeat_walk (b0 B i d base : Nat) (s : ByteArray) (t : Tr) (x : Nd) (w : World) (h : RR w b0 B s i d 0 0) (hlt : i < s.size) (hs : s.size ≤ 1024) (hn : NewT base w t x) (hbase : base ≤ w.heap.size) : Calls Try.prog 50 #[.pointer (some ⟨B, 0, none⟩), x.val] w (RefT base w b0 B s d (repeated s t i)) := by
  obtain ⟨w0, hw0⟩ : ∃ w0, w0 = w.alloc (.cells #[.int .i64 x.k, .int .u64 (Oct.word x.s 0 : Nat), .int .u64 (Oct.word x.s 1 : Nat), .int .u64 (Oct.word x.s 2 : Nat), .int .u64 (Oct.word x.s 3 : Nat), .slice x.a x.n x.c, .int .i64 x.mn, .int .i64 x.mx] 28) := ⟨_, rfl⟩
  obtain ⟨w1, hw1⟩ : ∃ w1, w1 = w0.alloc (.cells #[.int .i64 0, .int .u64 0, .int .u64 0, .int .u64 0, .int .u64 0, .slice none 0 0, .int .i64 0, .int .i64 0] 28) := ⟨_, rfl⟩
  have z0 : w0.heap.size = w.heap.size + 1 := by rw [hw0]; simp
  have k0 : Below w.heap.size w w0 := by rw [hw0]; exact (Below.refl _ _).alloc (Nat.le_refl _) _
  have k1 : Below w0.heap.size w0 w1 := by rw [hw1]; exact (Below.refl _ _).alloc (Nat.le_refl _) _
  have k2 : Below w.heap.size w w1 := below_trans k0 k1 k0.size
  have HS : Hid (Rq w s b0 B w.heap.size (w.heap.size + 1) d base t x w1 i) :=
    ⟨by have hb0 : NB w0 w.heap.size x := (by rw [hw0]; exact nb_new w x); exact hb0.later k1, by have hb1 : NB w1 w0.heap.size zeroNd := (by rw [hw1]; exact nb_zero w0); rw [z0] at hb1; exact hb1, h.later k2, Fr.of_below _ _ k2, hn.old.keep (fun b _ hlt _ => k2.block b hlt), by omega, hbase⟩
  have HW1 : Hid (w0.alloc (.cells #[.int .i64 0, .int .u64 0, .int .u64 0, .int .u64 0, .int .u64 0, .slice none 0 0, .int .i64 0, .int .i64 0] 28) = w1) := hw1.symm
  have HW0 : Hid (w.alloc (.cells #[.int .i64 x.k, .int .u64 (Oct.word x.s 0 : Nat), .int .u64 (Oct.word x.s 1 : Nat), .int .u64 (Oct.word x.s 2 : Nat), .int .u64 (Oct.word x.s 3 : Nat), .slice x.a x.n x.c, .int .i64 x.mn, .int .i64 x.mx] 28) = w0) := hw0.symm
  obtain ⟨A, hA⟩ : ∃ A, A = w.heap.size := ⟨_, rfl⟩
  obtain ⟨R, hR⟩ : ∃ R, R = w.heap.size + 1 := ⟨_, rfl⟩
  rw [← hA] at HS
  rw [show A + 1 = R by omega] at HS
  have HAA : Hid (A = w.heap.size) := hA
  have HRR : Hid (R = w.heap.size + 1) := hR
  have HRL : Hid (w.heap.size ≤ R) := by show _ ≤ _; omega
  clear hw0 hw1 z0 k0 k1 k2 h hn hA hR hbase
  have hi3 : i ≤ 1024 := by omega
  have hlt' : (i : Int) < (s.size : Int) := by omega
  have hbe := byt_eq hlt
  have HSE : Hid (∀ c, sees s i c = decide (s[i].toNat = c)) := fun c => by show _ = _; unfold sees; rw [decide_eq_true hlt, hbe]; rfl
  clear hbe
  obtain ⟨o, cc, c0, c1, c2, c3, c4⟩ := HS.out.rd.cells
  unfold Nd.val
  go_enter Try.func50, Try.ntmps50
  go_upto_region 1 with fail
  rw [HW0.out, HW1.out, ← HAA.out, show A + 1 = R by rw [HAA.out, HRR.out]]
  clear HW0 HW1 HAA HRR
  go_upto_region 2 with fail
  go_quiet (fail)
  have HS2 : Hid (Rq w s b0 B A R d base t x (w1.drewN nq) i) := HS.out.later (below_drewN _ _ _)
  obtain ⟨w2, hw2⟩ : ∃ w2, w2 = w1.drewN nq := ⟨_, rfl⟩
  rw [← hw2] at HS2
  have HW2 : Hid (w2 = _) := hw2
  clear hw2 c0 c1 c2 c3 c4 HS
  by_cases h42 : s[i].toNat = 42
  · have g0 : ((s[i].toNat : Int) == 42) = true := by simp; omega
    have HX : Hid (repeated s t i = .ok (times t 0 (-1)) (i + 1)) := by show _ = _; unfold repeated; rw [HSE.out, decide_eq_true h42]; rfl
    clear h42
    go_upto_region 22 with fail
    rw [← HW2.out]
    clear HW2
    obtain ⟨o, cc, c0, c1, c2, c3, c4⟩ := HS2.out.rd.cells
    have f1 := HS2.out.rd.frozen 1
    have HS5 : Hid (Rq w s b0 B A R d base t x (w2.setCell ⟨B, 1, none⟩ (.int .i64 ((i : Int) + 1))) (i + 1)) := HS2.out.at (i + 1)
    go_upto_region 23 with fail
    obtain ⟨u5, hu5⟩ : ∃ u5, u5 = w2.setCell ⟨B, 1, none⟩ (.int .i64 ((i : Int) + 1)) := ⟨_, rfl⟩
    rw [← hu5] at HS5 ⊢
    clear hu5 c0 c1 c2 c3 c4 f1
    obtain ⟨b0', b1', b2', b3', b4', b5', b6', b7'⟩ := HS5.out.box.cells
    obtain ⟨hres, hfin⟩ := HS5.out.end_ 0 (-1) HX.out (by omega)
    have HRES : Hid (NB _ R zeroNd) := hres
    have HFH : Hid (RefT base w b0 B s d (repeated s t i) _ _) := hfin
    clear hres hfin
    obtain ⟨z0, z1, z2, z3, z4, z5, z6, z7⟩ := HRES.out.cells
    have y0 := HRES.out.frozen 0
    have y1 := HRES.out.frozen 1
    have y2 := HRES.out.frozen 2
    have y3 := HRES.out.frozen 3
    have y4 := HRES.out.frozen 4
    have y5 := HRES.out.frozen 5
    have y6 := HRES.out.frozen 6
    have y7 := HRES.out.frozen 7
    go_wp2
    show bodyPost _ _ _ _ _ (put8z _ R 5 (some ⟨u5.heap.size, 0, none⟩) 1 1 0 (-1))
    rw [put8z_eq]
    exact post_node Try.f50 4 rfl rfl rfl (HRES.out.put8 _) HFH.out
  have g0 : ((s[i].toNat : Int) == 42) = false := by simp; omega
  by_cases h43 : s[i].toNat = 43
  · have g1 : ((s[i].toNat : Int) == 43) = true := by simp; omega
    have HX : Hid (repeated s t i = .ok (times t 1 (-1)) (i + 1)) := by show _ = _; unfold repeated; rw [HSE.out, HSE.out, decide_eq_false h42, decide_eq_true h43]; rfl
    clear h42 h43
    go_upto_region 22 with fail
    rw [← HW2.out]
    clear HW2
    obtain ⟨o, cc, c0, c1, c2, c3, c4⟩ := HS2.out.rd.cells
    have f1 := HS2.out.rd.frozen 1
    have HS5 : Hid (Rq w s b0 B A R d base t x (w2.setCell ⟨B, 1, none⟩ (.int .i64 ((i : Int) + 1))) (i + 1)) := HS2.out.at (i + 1)
    go_upto_region 23 with fail
    obtain ⟨u5, hu5⟩ : ∃ u5, u5 = w2.setCell ⟨B, 1, none⟩ (.int .i64 ((i : Int) + 1)) := ⟨_, rfl⟩
    rw [← hu5] at HS5 ⊢
    clear hu5 c0 c1 c2 c3 c4 f1
    obtain ⟨b0', b1', b2', b3', b4', b5', b6', b7'⟩ := HS5.out.box.cells
    obtain ⟨hres, hfin⟩ := HS5.out.end_ 1 (-1) HX.out (by omega)
    have HRES : Hid (NB _ R zeroNd) := hres
    have HFH : Hid (RefT base w b0 B s d (repeated s t i) _ _) := hfin
    clear hres hfin
    obtain ⟨z0, z1, z2, z3, z4, z5, z6, z7⟩ := HRES.out.cells
    have y0 := HRES.out.frozen 0
    have y1 := HRES.out.frozen 1
    have y2 := HRES.out.frozen 2
    have y3 := HRES.out.frozen 3
    have y4 := HRES.out.frozen 4
    have y5 := HRES.out.frozen 5
    have y6 := HRES.out.frozen 6
    have y7 := HRES.out.frozen 7
    go_wp2
    show bodyPost _ _ _ _ _ (put8z _ R 5 (some ⟨u5.heap.size, 0, none⟩) 1 1 1 (-1))
    rw [put8z_eq]
    exact post_node Try.f50 4 rfl rfl rfl (HRES.out.put8 _) HFH.out
  have g1 : ((s[i].toNat : Int) == 43) = false := by simp; omega
  by_cases h63 : s[i].toNat = 63
  · have g2 : ((s[i].toNat : Int) == 63) = true := by simp; omega
    have HX : Hid (repeated s t i = .ok (times t 0 1) (i + 1)) := by show _ = _; unfold repeated; rw [HSE.out, HSE.out, HSE.out, decide_eq_false h42, decide_eq_false h43, decide_eq_true h63]; rfl
    clear h42 h43 h63
    go_upto_region 22 with fail
    rw [← HW2.out]
    clear HW2
    obtain ⟨o, cc, c0, c1, c2, c3, c4⟩ := HS2.out.rd.cells
    have f1 := HS2.out.rd.frozen 1
    have HS5 : Hid (Rq w s b0 B A R d base t x (w2.setCell ⟨B, 1, none⟩ (.int .i64 ((i : Int) + 1))) (i + 1)) := HS2.out.at (i + 1)
    go_upto_region 23 with fail
    obtain ⟨u5, hu5⟩ : ∃ u5, u5 = w2.setCell ⟨B, 1, none⟩ (.int .i64 ((i : Int) + 1)) := ⟨_, rfl⟩
    rw [← hu5] at HS5 ⊢
    clear hu5 c0 c1 c2 c3 c4 f1
    obtain ⟨b0', b1', b2', b3', b4', b5', b6', b7'⟩ := HS5.out.box.cells
    obtain ⟨hres, hfin⟩ := HS5.out.end_ 0 1 HX.out (by omega)
    have HRES : Hid (NB _ R zeroNd) := hres
    have HFH : Hid (RefT base w b0 B s d (repeated s t i) _ _) := hfin
    clear hres hfin
    obtain ⟨z0, z1, z2, z3, z4, z5, z6, z7⟩ := HRES.out.cells
    have y0 := HRES.out.frozen 0
    have y1 := HRES.out.frozen 1
    have y2 := HRES.out.frozen 2
    have y3 := HRES.out.frozen 3
    have y4 := HRES.out.frozen 4
    have y5 := HRES.out.frozen 5
    have y6 := HRES.out.frozen 6
    have y7 := HRES.out.frozen 7
    go_wp2
    show bodyPost _ _ _ _ _ (put8z _ R 5 (some ⟨u5.heap.size, 0, none⟩) 1 1 0 1)
    rw [put8z_eq]
    exact post_node Try.f50 4 rfl rfl rfl (HRES.out.put8 _) HFH.out
  have g2 : ((s[i].toNat : Int) == 63) = false := by simp; omega
  by_cases h123 : s[i].toNat = 123
  case neg =>
    have g3 : ((s[i].toNat : Int) == 123) = false := by simp; omega
    have HX : Hid (repeated s t i = .ok t i) := by show _ = _; unfold repeated; rw [HSE.out, HSE.out, HSE.out, HSE.out, decide_eq_false h42, decide_eq_false h43, decide_eq_false h63, decide_eq_false h123]; rfl
    clear h42 h43 h63 h123
    go_upto_region 3 with fail
    rw [← HW2.out]
    clear HW2
    obtain ⟨b0', b1', b2', b3', b4', b5', b6', b7'⟩ := HS2.out.box.cells
    obtain ⟨z0, z1, z2, z3, z4, z5, z6, z7⟩ := HS2.out.res.cells
    have y0 := HS2.out.res.frozen 0
    have y1 := HS2.out.res.frozen 1
    have y2 := HS2.out.res.frozen 2
    have y3 := HS2.out.res.frozen 3
    have y4 := HS2.out.res.frozen 4
    have y5 := HS2.out.res.frozen 5
    have y6 := HS2.out.res.frozen 6
    have y7 := HS2.out.res.frozen 7
    go_wp2
    exact post_node Try.f50 4 rfl rfl rfl (HS2.out.res.put8 x) (HS2.out.back HX.out (by omega))
  have g3 : ((s[i].toNat : Int) == 123) = true := by simp; omega
  have HXC : Hid (repeated s t i = match refCounts s i with
    | .ok (l, m) j => .ok (times t l m) (j + 1)
    | .bad a e => .bad a e
    | .out => .out) := by show _ = _; unfold repeated; rw [HSE.out, HSE.out, HSE.out, HSE.out, decide_eq_false h42, decide_eq_false h43, decide_eq_false h63, decide_eq_true h123, counts_ref]; rfl
  clear h42 h43 h63 h123
  obtain ⟨n, hn⟩ : ∃ n, n = (digits s 4 (i + 1) 0).1 := ⟨_, rfl⟩
  obtain ⟨j, hj⟩ : ∃ j, j = (digits s 4 (i + 1) 0).2 := ⟨_, rfl⟩
  have hjp := digits_place s 4 (i + 1) 0
  rw [← hj] at hjp
  unfold refCounts at HXC
  rw [← hn, ← hj] at HXC
  have HN1 : Hid (∀ u, RR u b0 B s i d 0 0 → Calls Try.prog 57 #[.pointer (some ⟨B, 0, none⟩), .int .i64 ((i : Int) + 1)] u fun x w' => x = .returned (.tuple #[.int .i64 (n : Nat), .int .i64 (j : Nat), .bool (numOk n (i + 1) j)]) ∧ w' = u) := fun u hu => by have := rnumber_any b0 B i d 0 0 (i + 1) s u hu hs (by omega); rw [← hn, ← hj] at this; exact this
  clear hn hj
  obtain ⟨o, cc, c0, c1, c2, c3, c4⟩ := HS2.out.rd.cells
  go_upto_region 10 with fail
  rw [← HW2.out]
  clear HW2
  go_wp2_with fail
  refine (HN1.out _ HS2.out.rd).mono ?_
  rintro e u1 ⟨rfl, hz⟩
  subst hz
  clear HN1
  cases hok : numOk n (i + 1) j with
  | false =>
    have HX : Hid (repeated s t i = .bad i 45) := by show _ = _; rw [HXC.out, hok]; rfl
    clear HXC
    go_wp2_with fail
    refine (rfault_lit b0 B i d 45 i _ rfl s _ HS2.out.rd).mono ?_
    rintro e u6 ⟨rfl, hr6, hf6⟩
    have HRES : Hid (NB u6 R zeroNd) := HS2.out.res.fr HS2.out.rd hf6
    have HR6 : Hid (RR u6 b0 B s i d 45 i) := hr6
    have HF6 : Hid (Fr b0 B w u6) := HS2.out.fr.trans hf6
    clear hr6 hf6 c0 c1 c2 c3 c4
    unfold zeroNd Nd.val
    obtain ⟨z0, z1, z2, z3, z4, z5, z6, z7⟩ := HRES.out.cells
    have y0 := HRES.out.frozen 0
    have y1 := HRES.out.frozen 1
    have y2 := HRES.out.frozen 2
    have y3 := HRES.out.frozen 3
    have y4 := HRES.out.frozen 4
    have y5 := HRES.out.frozen 5
    have y6 := HRES.out.frozen 6
    have y7 := HRES.out.frozen 7
    go_wp2
    show bodyPost _ _ _ _ _ (put8 _ R zeroNd)
    exact post_node Try.f50 4 rfl rfl rfl (HRES.out.put8 zeroNd) (fin_bad HX.out (by decide) zeroNd _ (newT_zero _ _) (HR6.out.put8 HRES.out zeroNd) (HF6.out.put8 HRL.out zeroNd))
  | true =>
    rw [hok] at HXC
    go_wp2_with fail
    refine (ris_any b0 B i d 0 0 (j) 44 s _ HS2.out.rd).mono ?_
    rintro e u1 ⟨rfl, hz⟩
    subst hz
    cases h44 : sees s j 44 with
    | false =>
      rw [h44] at HXC
      go_wp2_with fail
      refine (ris_any b0 B i d 0 0 (j) 125 s _ HS2.out.rd).mono ?_
      rintro e u1 ⟨rfl, hz⟩
      subst hz
      cases h125 : sees s j 125 with
      | false =>
        rw [h125] at HXC
        have HX : Hid (repeated s t i = .bad i 45) := by show _ = _; rw [HXC.out]; rfl
        clear HXC
        go_wp2_with fail
        refine (rfault_lit b0 B i d 45 i _ rfl s _ HS2.out.rd).mono ?_
        rintro e u6 ⟨rfl, hr6, hf6⟩
        have HRES : Hid (NB u6 R zeroNd) := HS2.out.res.fr HS2.out.rd hf6
        have HR6 : Hid (RR u6 b0 B s i d 45 i) := hr6
        have HF6 : Hid (Fr b0 B w u6) := HS2.out.fr.trans hf6
        clear hr6 hf6 c0 c1 c2 c3 c4
        unfold zeroNd Nd.val
        obtain ⟨z0, z1, z2, z3, z4, z5, z6, z7⟩ := HRES.out.cells
        have y0 := HRES.out.frozen 0
        have y1 := HRES.out.frozen 1
        have y2 := HRES.out.frozen 2
        have y3 := HRES.out.frozen 3
        have y4 := HRES.out.frozen 4
        have y5 := HRES.out.frozen 5
        have y6 := HRES.out.frozen 6
        have y7 := HRES.out.frozen 7
        go_wp2
        show bodyPost _ _ _ _ _ (put8 _ R zeroNd)
        exact post_node Try.f50 4 rfl rfl rfl (HRES.out.put8 zeroNd) (fin_bad HX.out (by decide) zeroNd _ (newT_zero _ _) (HR6.out.put8 HRES.out zeroNd) (HF6.out.put8 HRL.out zeroNd))
      | true =>
        rw [h125] at HXC
        have hjl := seesl h125
        have q1 : ((n : Int) == -1) = false := by simp
        have q2 : ((n : Int) != -1) = true := by simp
        clear h44 h125
        have HX : Hid (repeated s t i = .ok (times t (n : Nat) (n : Nat)) (j + 1)) := by show _ = _; rw [HXC.out]; rfl
        clear HXC
        have f1 := HS2.out.rd.frozen 1
        have HS4 : Hid (Rq w s b0 B A R d base t x (u1.setCell ⟨B, 1, none⟩ (.int .i64 ((j : Nat)))) (j)) := HS2.out.at (j)
        go_upto_region 21 with fail
        obtain ⟨u4, hu4⟩ : ∃ u4, u4 = u1.setCell ⟨B, 1, none⟩ (.int .i64 ((j : Nat))) := ⟨_, rfl⟩
        rw [← hu4] at HS4 ⊢
        clear hu4 c0 c1 c2 c3 c4 f1
        go_upto_region 22 with fail
        obtain ⟨o, cc, c0, c1, c2, c3, c4⟩ := HS4.out.rd.cells
        have f1 := HS4.out.rd.frozen 1
        have HS5 : Hid (Rq w s b0 B A R d base t x (u4.setCell ⟨B, 1, none⟩ (.int .i64 ((j : Int) + 1))) (j + 1)) := HS4.out.at (j + 1)
        go_upto_region 23 with fail
        obtain ⟨u5, hu5⟩ : ∃ u5, u5 = u4.setCell ⟨B, 1, none⟩ (.int .i64 ((j : Int) + 1)) := ⟨_, rfl⟩
        rw [← hu5] at HS5 ⊢
        clear hu5 c0 c1 c2 c3 c4 f1
        obtain ⟨b0', b1', b2', b3', b4', b5', b6', b7'⟩ := HS5.out.box.cells
        obtain ⟨hres, hfin⟩ := HS5.out.end_ (n : Nat) (n : Nat) HX.out (by omega)
        have HRES : Hid (NB _ R zeroNd) := hres
        have HFH : Hid (RefT base w b0 B s d (repeated s t i) _ _) := hfin
        clear hres hfin
        obtain ⟨z0, z1, z2, z3, z4, z5, z6, z7⟩ := HRES.out.cells
        have y0 := HRES.out.frozen 0
        have y1 := HRES.out.frozen 1
        have y2 := HRES.out.frozen 2
        have y3 := HRES.out.frozen 3
        have y4 := HRES.out.frozen 4
        have y5 := HRES.out.frozen 5
        have y6 := HRES.out.frozen 6
        have y7 := HRES.out.frozen 7
        go_wp2
        show bodyPost _ _ _ _ _ (put8z _ R 5 (some ⟨u5.heap.size, 0, none⟩) 1 1 (n : Nat) (n : Nat))
        rw [put8z_eq]
        exact post_node Try.f50 4 rfl rfl rfl (HRES.out.put8 _) HFH.out
    | true =>
      rw [h44] at HXC
      have hjl := seesl h44
      have HIS : Hid (∀ c : Nat, ∀ u, RR u b0 B s i d 0 0 → Calls Try.prog 37 #[.pointer (some ⟨B, 0, none⟩), .int .i64 ((j : Int) + 1), .int .u8 (c : Nat)] u fun x w' => x = .returned (.bool (sees s (j + 1) c)) ∧ w' = u) := fun c u hu => ris_any b0 B i d 0 0 (j + 1) c s u hu
      go_wp2_with fail
      refine (HIS.out 125 _ HS2.out.rd).mono ?_
      rintro e u1 ⟨rfl, hz⟩
      subst hz
      cases h125 : sees s (j + 1) 125 with
      | true =>
        rw [h125] at HXC
        have hjl2 := seesl h125
        go_wp2_with fail
        refine (HIS.out 125 _ HS2.out.rd).mono ?_
        rintro e u1 ⟨rfl, hz⟩
        subst hz
        rw [h125]
        clear h44 h125
        have HX : Hid (repeated s t i = .ok (times t (n : Nat) (-1)) ((j + 1) + 1)) := by show _ = _; rw [HXC.out]; rfl
        clear HXC
        have f1 := HS2.out.rd.frozen 1
        have HS4 : Hid (Rq w s b0 B A R d base t x (u1.setCell ⟨B, 1, none⟩ (.int .i64 ((j : Int) + 1))) ((j + 1))) := HS2.out.at ((j + 1))
        go_upto_region 21 with fail
        obtain ⟨u4, hu4⟩ : ∃ u4, u4 = u1.setCell ⟨B, 1, none⟩ (.int .i64 ((j : Int) + 1)) := ⟨_, rfl⟩
        rw [← hu4] at HS4 ⊢
        clear hu4 c0 c1 c2 c3 c4 f1
        go_upto_region 22 with fail
        obtain ⟨o, cc, c0, c1, c2, c3, c4⟩ := HS4.out.rd.cells
        have f1 := HS4.out.rd.frozen 1
        have HS5 : Hid (Rq w s b0 B A R d base t x (u4.setCell ⟨B, 1, none⟩ (.int .i64 (((j + 1) : Int) + 1))) ((j + 1) + 1)) := HS4.out.at ((j + 1) + 1)
        go_upto_region 23 with fail
        obtain ⟨u5, hu5⟩ : ∃ u5, u5 = u4.setCell ⟨B, 1, none⟩ (.int .i64 (((j + 1) : Int) + 1)) := ⟨_, rfl⟩
        rw [← hu5] at HS5 ⊢
        clear hu5 c0 c1 c2 c3 c4 f1
        obtain ⟨b0', b1', b2', b3', b4', b5', b6', b7'⟩ := HS5.out.box.cells
        obtain ⟨hres, hfin⟩ := HS5.out.end_ (n : Nat) (-1) HX.out (by omega)
        have HRES : Hid (NB _ R zeroNd) := hres
        have HFH : Hid (RefT base w b0 B s d (repeated s t i) _ _) := hfin
        clear hres hfin
        obtain ⟨z0, z1, z2, z3, z4, z5, z6, z7⟩ := HRES.out.cells
        have y0 := HRES.out.frozen 0
        have y1 := HRES.out.frozen 1
        have y2 := HRES.out.frozen 2
        have y3 := HRES.out.frozen 3
        have y4 := HRES.out.frozen 4
        have y5 := HRES.out.frozen 5
        have y6 := HRES.out.frozen 6
        have y7 := HRES.out.frozen 7
        go_wp2
        show bodyPost _ _ _ _ _ (put8z _ R 5 (some ⟨u5.heap.size, 0, none⟩) 1 1 (n : Nat) (-1))
        rw [put8z_eq]
        exact post_node Try.f50 4 rfl rfl rfl (HRES.out.put8 _) HFH.out
      | false =>
        rw [h125] at HXC
        obtain ⟨m, hm⟩ : ∃ m, m = (digits s 4 (j + 1) 0).1 := ⟨_, rfl⟩
        obtain ⟨k, hk⟩ : ∃ k, k = (digits s 4 (j + 1) 0).2 := ⟨_, rfl⟩
        have hkp := digits_place s 4 (j + 1) 0
        rw [← hk] at hkp
        rw [← hm, ← hk] at HXC
        have HN2 : Hid (∀ u, RR u b0 B s i d 0 0 → Calls Try.prog 57 #[.pointer (some ⟨B, 0, none⟩), .int .i64 ((j : Int) + 1)] u fun x w' => x = .returned (.tuple #[.int .i64 (m : Nat), .int .i64 (k : Nat), .bool (numOk m (j + 1) k)]) ∧ w' = u) := fun u hu => by have := rnumber_any b0 B i d 0 0 (j + 1) s u hu hs (by omega); rw [← hm, ← hk] at this; exact this
        clear hm hk
        go_wp2_with fail
        refine (HN2.out _ HS2.out.rd).mono ?_
        rintro e u1 ⟨rfl, hz⟩
        subst hz
        clear HN2
        cases hok2 : numOk m (j + 1) k with
        | false =>
          rw [hok2] at HXC
          have HX : Hid (repeated s t i = .bad i 45) := by show _ = _; rw [HXC.out]; rfl
          clear HXC
          go_wp2_with fail
          refine (rfault_lit b0 B i d 45 i _ rfl s _ HS2.out.rd).mono ?_
          rintro e u6 ⟨rfl, hr6, hf6⟩
          have HRES : Hid (NB u6 R zeroNd) := HS2.out.res.fr HS2.out.rd hf6
          have HR6 : Hid (RR u6 b0 B s i d 45 i) := hr6
          have HF6 : Hid (Fr b0 B w u6) := HS2.out.fr.trans hf6
          clear hr6 hf6 c0 c1 c2 c3 c4
          unfold zeroNd Nd.val
          obtain ⟨z0, z1, z2, z3, z4, z5, z6, z7⟩ := HRES.out.cells
          have y0 := HRES.out.frozen 0
          have y1 := HRES.out.frozen 1
          have y2 := HRES.out.frozen 2
          have y3 := HRES.out.frozen 3
          have y4 := HRES.out.frozen 4
          have y5 := HRES.out.frozen 5
          have y6 := HRES.out.frozen 6
          have y7 := HRES.out.frozen 7
          go_wp2
          show bodyPost _ _ _ _ _ (put8 _ R zeroNd)
          exact post_node Try.f50 4 rfl rfl rfl (HRES.out.put8 zeroNd) (fin_bad HX.out (by decide) zeroNd _ (newT_zero _ _) (HR6.out.put8 HRES.out zeroNd) (HF6.out.put8 HRL.out zeroNd))
        | true =>
          rw [hok2] at HXC
          go_wp2_with fail
          refine (ris_any b0 B i d 0 0 (k) 125 s _ HS2.out.rd).mono ?_
          rintro e u1 ⟨rfl, hz⟩
          subst hz
          cases g125 : sees s k 125 with
          | false =>
            rw [g125] at HXC
            have HX : Hid (repeated s t i = .bad i 45) := by show _ = _; rw [HXC.out]; rfl
            clear HXC
            go_wp2_with fail
            refine (rfault_lit b0 B i d 45 i _ rfl s _ HS2.out.rd).mono ?_
            rintro e u6 ⟨rfl, hr6, hf6⟩
            have HRES : Hid (NB u6 R zeroNd) := HS2.out.res.fr HS2.out.rd hf6
            have HR6 : Hid (RR u6 b0 B s i d 45 i) := hr6
            have HF6 : Hid (Fr b0 B w u6) := HS2.out.fr.trans hf6
            clear hr6 hf6 c0 c1 c2 c3 c4
            unfold zeroNd Nd.val
            obtain ⟨z0, z1, z2, z3, z4, z5, z6, z7⟩ := HRES.out.cells
            have y0 := HRES.out.frozen 0
            have y1 := HRES.out.frozen 1
            have y2 := HRES.out.frozen 2
            have y3 := HRES.out.frozen 3
            have y4 := HRES.out.frozen 4
            have y5 := HRES.out.frozen 5
            have y6 := HRES.out.frozen 6
            have y7 := HRES.out.frozen 7
            go_wp2
            show bodyPost _ _ _ _ _ (put8 _ R zeroNd)
            exact post_node Try.f50 4 rfl rfl rfl (HRES.out.put8 zeroNd) (fin_bad HX.out (by decide) zeroNd _ (newT_zero _ _) (HR6.out.put8 HRES.out zeroNd) (HF6.out.put8 HRL.out zeroNd))
          | true =>
            rw [g125] at HXC
            have hkl := seesl g125
            have q1 : ((m : Int) == -1) = false := by simp
            have q2 : ((m : Int) != -1) = true := by simp
            by_cases hle : n ≤ m
            · have q3 : ¬ (m : Int) < (n : Int) := by omega
              have HX : Hid (repeated s t i = .ok (times t (n : Nat) (m : Nat)) (k + 1)) := by show _ = _; rw [HXC.out, if_pos hle]; rfl
              clear HXC
              have f1 := HS2.out.rd.frozen 1
              have HS4 : Hid (Rq w s b0 B A R d base t x (u1.setCell ⟨B, 1, none⟩ (.int .i64 ((k : Nat)))) (k)) := HS2.out.at (k)
              go_upto_region 21 with fail
              obtain ⟨u4, hu4⟩ : ∃ u4, u4 = u1.setCell ⟨B, 1, none⟩ (.int .i64 ((k : Nat))) := ⟨_, rfl⟩
              rw [← hu4] at HS4 ⊢
              clear hu4 c0 c1 c2 c3 c4 f1
              go_upto_region 22 with fail
              obtain ⟨o, cc, c0, c1, c2, c3, c4⟩ := HS4.out.rd.cells
              have f1 := HS4.out.rd.frozen 1
              have HS5 : Hid (Rq w s b0 B A R d base t x (u4.setCell ⟨B, 1, none⟩ (.int .i64 ((k : Int) + 1))) (k + 1)) := HS4.out.at (k + 1)
              go_upto_region 23 with fail
              obtain ⟨u5, hu5⟩ : ∃ u5, u5 = u4.setCell ⟨B, 1, none⟩ (.int .i64 ((k : Int) + 1)) := ⟨_, rfl⟩
              rw [← hu5] at HS5 ⊢
              clear hu5 c0 c1 c2 c3 c4 f1
              obtain ⟨b0', b1', b2', b3', b4', b5', b6', b7'⟩ := HS5.out.box.cells
              obtain ⟨hres, hfin⟩ := HS5.out.end_ (n : Nat) (m : Nat) HX.out (by omega)
              have HRES : Hid (NB _ R zeroNd) := hres
              have HFH : Hid (RefT base w b0 B s d (repeated s t i) _ _) := hfin
              clear hres hfin
              obtain ⟨z0, z1, z2, z3, z4, z5, z6, z7⟩ := HRES.out.cells
              have y0 := HRES.out.frozen 0
              have y1 := HRES.out.frozen 1
              have y2 := HRES.out.frozen 2
              have y3 := HRES.out.frozen 3
              have y4 := HRES.out.frozen 4
              have y5 := HRES.out.frozen 5
              have y6 := HRES.out.frozen 6
              have y7 := HRES.out.frozen 7
              go_wp2
              show bodyPost _ _ _ _ _ (put8z _ R 5 (some ⟨u5.heap.size, 0, none⟩) 1 1 (n : Nat) (m : Nat))
              rw [put8z_eq]
              exact post_node Try.f50 4 rfl rfl rfl (HRES.out.put8 _) HFH.out
            · have q3 : (m : Int) < (n : Int) := by omega
              have HX : Hid (repeated s t i = .bad i 45) := by show _ = _; rw [HXC.out, if_neg hle]; rfl
              clear HXC
              go_wp2_with fail
              refine (rfault_lit b0 B i d 45 i _ rfl s _ HS2.out.rd).mono ?_
              rintro e u6 ⟨rfl, hr6, hf6⟩
              have HRES : Hid (NB u6 R zeroNd) := HS2.out.res.fr HS2.out.rd hf6
              have HR6 : Hid (RR u6 b0 B s i d 45 i) := hr6
              have HF6 : Hid (Fr b0 B w u6) := HS2.out.fr.trans hf6
              clear hr6 hf6 c0 c1 c2 c3 c4
              unfold zeroNd Nd.val
              obtain ⟨z0, z1, z2, z3, z4, z5, z6, z7⟩ := HRES.out.cells
              have y0 := HRES.out.frozen 0
              have y1 := HRES.out.frozen 1
              have y2 := HRES.out.frozen 2
              have y3 := HRES.out.frozen 3
              have y4 := HRES.out.frozen 4
              have y5 := HRES.out.frozen 5
              have y6 := HRES.out.frozen 6
              have y7 := HRES.out.frozen 7
              go_wp2
              show bodyPost _ _ _ _ _ (put8 _ R zeroNd)
              exact post_node Try.f50 4 rfl rfl rfl (HRES.out.put8 zeroNd) (fin_bad HX.out (by decide) zeroNd _ (newT_zero _ _) (HR6.out.put8 HRES.out zeroNd) (HF6.out.put8 HRL.out zeroNd))
end Go.Proofs.Ytlcnmfgmgiijpaa
