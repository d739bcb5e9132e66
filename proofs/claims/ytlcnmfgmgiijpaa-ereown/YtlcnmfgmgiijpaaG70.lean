/- EreOwn, walked. -/
import Derived.Test.YtlcnmfgmgiijpaaG69
import Derived.Test.YtlcnmfgmgiijpaaG68
import Derived.Test.YtlcnmfgmgiijpaaG26
namespace Go.Proofs.Ytlcnmfgmgiijpaa
open Go.RowKit
attribute [local go_sem ↓] Go.wp_at_zero Go.wp_at_succ

theorem row3 (u : World) (x y z : Nd) : Ytlcnmfgmgiijpaa.RowAt (fun b => TyB (u.alloc (.cells #[.int .i64 x.k, .int .u64 (Oct.word x.s 0 : Nat), .int .u64 (Oct.word x.s 1 : Nat), .int .u64 (Oct.word x.s 2 : Nat), .int .u64 (Oct.word x.s 3 : Nat), .slice x.a x.n x.c, .int .i64 x.mn, .int .i64 x.mx, .int .i64 y.k, .int .u64 (Oct.word y.s 0 : Nat), .int .u64 (Oct.word y.s 1 : Nat), .int .u64 (Oct.word y.s 2 : Nat), .int .u64 (Oct.word y.s 3 : Nat), .slice y.a y.n y.c, .int .i64 y.mn, .int .i64 y.mx, .int .i64 z.k, .int .u64 (Oct.word z.s 0 : Nat), .int .u64 (Oct.word z.s 1 : Nat), .int .u64 (Oct.word z.s 2 : Nat), .int .u64 (Oct.word z.s 3 : Nat), .slice z.a z.n z.c, .int .i64 z.mn, .int .i64 z.mx] 28)) 28 b) (u.alloc (.cells #[.int .i64 x.k, .int .u64 (Oct.word x.s 0 : Nat), .int .u64 (Oct.word x.s 1 : Nat), .int .u64 (Oct.word x.s 2 : Nat), .int .u64 (Oct.word x.s 3 : Nat), .slice x.a x.n x.c, .int .i64 x.mn, .int .i64 x.mx, .int .i64 y.k, .int .u64 (Oct.word y.s 0 : Nat), .int .u64 (Oct.word y.s 1 : Nat), .int .u64 (Oct.word y.s 2 : Nat), .int .u64 (Oct.word y.s 3 : Nat), .slice y.a y.n y.c, .int .i64 y.mn, .int .i64 y.mx, .int .i64 z.k, .int .u64 (Oct.word z.s 0 : Nat), .int .u64 (Oct.word z.s 1 : Nat), .int .u64 (Oct.word z.s 2 : Nat), .int .u64 (Oct.word z.s 3 : Nat), .slice z.a z.n z.c, .int .i64 z.mn, .int .i64 z.mx] 28)) (some ⟨u.heap.size, 0, none⟩) [x, y, z] := by
  refine Or.inr ⟨_, 0, rfl, ⟨_, _, heap_alloc_new u _⟩, fun j v hj => ?_⟩
  simp only [World.cell?, heap_alloc_new, Nat.zero_add]
  rw [← Array.getElem?_toList]
  exact hj
theorem Full.reads {w : World} {l : Ls} {k : Nat} (h : Full w l l.n (100 + k)) {r : Nat} (hr : r < l.n) : w.cell? ⟨l.g, r * 8, none⟩ = some (.int .i64 (100 + (k : Int))) ∧ w.cell? ⟨l.g, r * 8 + 1, none⟩ = some (.int .u64 0) ∧ w.cell? ⟨l.g, r * 8 + 2, none⟩ = some (.int .u64 0) ∧ w.cell? ⟨l.g, r * 8 + 3, none⟩ = some (.int .u64 0) ∧ w.cell? ⟨l.g, r * 8 + 4, none⟩ = some (.int .u64 0) ∧ w.cell? ⟨l.g, r * 8 + 5, none⟩ = some (.slice none 0 0) ∧ w.cell? ⟨l.g, r * 8 + 6, none⟩ = some (.int .i64 0) ∧ w.cell? ⟨l.g, r * 8 + 7, none⟩ = some (.int .i64 0) := by
  obtain ⟨cur, hg, h1, h2, h3, h4, h5⟩ := h
  have key : ∀ (j : Nat) (v : Value), (mk1 (100 + k)).cells[j]? = some v → w.cell? ⟨l.g, r * 8 + j, none⟩ = some v := fun j v hv => by
    have hj : j < 8 := (List.getElem?_eq_some_iff.1 hv).1
    have e : (flatN (List.replicate l.n (mk1 (100 + k))))[r * 8 + j]? = some v := by
      obtain ⟨d, hd⟩ : ∃ d, l.n = r + (1 + d) := ⟨l.n - r - 1, by omega⟩
      rw [hd, ← List.replicate_append_replicate, flatN_append, List.getElem?_append_right (by rw [flatN_length, List.length_replicate]; omega), flatN_length, List.length_replicate, ← List.replicate_append_replicate, flatN_append, List.getElem?_append_left (by rw [flatN_length, List.length_replicate]; omega)]
      have e2 : r * 8 + j - 8 * r = j := by omega
      rw [e2]
      simpa [flatN] using hv
    rw [← h5, List.getElem?_take_of_lt (by omega)] at e
    simp only [World.cell?, hg]
    simpa using e
  have e : ((100 + k : Nat) : Int) = 100 + (k : Int) := by omega
  refine ⟨key 0 _ (by rw [mk1_cells, e]; rfl), key 1 _ (by rw [mk1_cells]; rfl), key 2 _ (by rw [mk1_cells]; rfl), key 3 _ (by rw [mk1_cells]; rfl), key 4 _ (by rw [mk1_cells]; rfl), key 5 _ (by rw [mk1_cells]; rfl), key 6 _ (by rw [mk1_cells]; rfl), key 7 _ (by rw [mk1_cells]; rfl)⟩
theorem below_step2 {b : Nat} {w u v : World} (h : Below b w u) (h2 : Below b u v) : Below b w v :=
  ⟨h2.os.trans h.os, h2.tape.trans h.tape, h2.output.trans h.output, Nat.le_trans h.size h2.size, fun k hk => (h2.block k hk).trans (h.block k hk)⟩
set_option maxRecDepth 4000 in
set_option maxHeartbeats 16000000 in
theorem own_any (p q : ByteArray) (w : World) (gm : GM w) : Calls Try.prog 4 #[.string p, .string q] w fun e w' => e = .returned (.bool true) ∧ Below w.heap.size w w' := by
  have HGM : Hid (GM w) := gm
  clear gm
  go_enter Try.func4, Try.ntmps4
  go_wp2_with fail
  refine (known_any w HGM.out).mono ?_
  rintro e u1 ⟨rfl, kk⟩
  have HZu1 : Hid (w.heap.size ≤ u1.heap.size) := kk.size
  have HB : Hid (Below w.heap.size w u1) := kk
  clear kk
  go_wp2_with fail
  refine (own_parse p _ (HGM.out.later HB.out)).mono ?_
  rintro e u2 ⟨kk, x, ax, cx, rfl, hx⟩
  have HZu2 : Hid (u1.heap.size ≤ u2.heap.size) := kk.size
  have HB2 : Hid (Below w.heap.size w u2) := below_step HB.out kk
  clear HB; have HB : Hid (Below w.heap.size w u2) := HB2.out; clear HB2
  have Hx : Hid (Ow.NodeAt (fun b => u1.heap.size ≤ b ∧ b < u2.heap.size) u2 (treeOf p) x) := hx
  clear kk hx
  have kk : Below u2.heap.size u2 (u2.alloc (.cells #[.int .i64 x.k, .int .u64 (Oct.word x.s 0 : Nat), .int .u64 (Oct.word x.s 1 : Nat), .int .u64 (Oct.word x.s 2 : Nat), .int .u64 (Oct.word x.s 3 : Nat), .slice x.a x.n x.c, .int .i64 x.mn, .int .i64 x.mx] 28)) := (Below.refl _ _).alloc (Nat.le_refl _) _
  have HNx : Hid (NB (u2.alloc (.cells #[.int .i64 x.k, .int .u64 (Oct.word x.s 0 : Nat), .int .u64 (Oct.word x.s 1 : Nat), .int .u64 (Oct.word x.s 2 : Nat), .int .u64 (Oct.word x.s 3 : Nat), .slice x.a x.n x.c, .int .i64 x.mn, .int .i64 x.mx] 28)) u2.heap.size x) := nb_new u2 x
  obtain ⟨u3, hu3⟩ : ∃ u3, (u2.alloc (.cells #[.int .i64 x.k, .int .u64 (Oct.word x.s 0 : Nat), .int .u64 (Oct.word x.s 1 : Nat), .int .u64 (Oct.word x.s 2 : Nat), .int .u64 (Oct.word x.s 3 : Nat), .slice x.a x.n x.c, .int .i64 x.mn, .int .i64 x.mx] 28)) = u3 := ⟨_, rfl⟩
  rw [hu3] at kk HNx
  have HZu3 : Hid (u2.heap.size ≤ u3.heap.size) := kk.size
  have HB2 : Hid (Below w.heap.size w u3) := below_step HB.out kk
  clear HB; have HB : Hid (Below w.heap.size w u3) := HB2.out; clear HB2
  have Hx2 : Hid (Ow.NodeAt (fun b => u1.heap.size ≤ b ∧ b < u2.heap.size) u3 (treeOf p) x) := Hx.out.later kk
  clear Hx; have Hx : Hid (Ow.NodeAt (fun b => u1.heap.size ≤ b ∧ b < u2.heap.size) u3 (treeOf p) x) := Hx2.out; clear Hx2
  have HUu3 : Hid ((u2.alloc (.cells #[.int .i64 x.k, .int .u64 (Oct.word x.s 0 : Nat), .int .u64 (Oct.word x.s 1 : Nat), .int .u64 (Oct.word x.s 2 : Nat), .int .u64 (Oct.word x.s 3 : Nat), .slice x.a x.n x.c, .int .i64 x.mn, .int .i64 x.mx] 28)) = u3) := hu3
  clear kk hu3
  obtain ⟨A3, hA3⟩ : ∃ A3, u2.heap.size = A3 := ⟨_, rfl⟩
  rw [hA3] at HNx
  have HAA3 : Hid (u2.heap.size = A3) := hA3
  clear hA3
  unfold Nd.val
  go_upto_region 5 with fail
  rw [HUu3.out, HAA3.out]
  clear HUu3
  go_wp2_with fail
  refine (own_parse q _ (HGM.out.later HB.out)).mono ?_
  rintro e u4 ⟨kk, y, ay, cy, rfl, hy⟩
  have HZu4 : Hid (u3.heap.size ≤ u4.heap.size) := kk.size
  have HB2 : Hid (Below w.heap.size w u4) := below_step HB.out kk
  clear HB; have HB : Hid (Below w.heap.size w u4) := HB2.out; clear HB2
  have Hx2 : Hid (Ow.NodeAt (fun b => u1.heap.size ≤ b ∧ b < u2.heap.size) u4 (treeOf p) x) := Hx.out.later kk
  clear Hx; have Hx : Hid (Ow.NodeAt (fun b => u1.heap.size ≤ b ∧ b < u2.heap.size) u4 (treeOf p) x) := Hx2.out; clear Hx2
  have HNx2 : Hid (NB u4 A3 x) := HNx.out.later kk
  clear HNx; have HNx : Hid (NB u4 A3 x) := HNx2.out; clear HNx2
  have Hy : Hid (Ow.NodeAt (fun b => u3.heap.size ≤ b ∧ b < u4.heap.size) u4 (treeOf q) y) := hy
  clear kk hy
  have kk : Below u4.heap.size u4 (u4.alloc (.cells #[.int .i64 y.k, .int .u64 (Oct.word y.s 0 : Nat), .int .u64 (Oct.word y.s 1 : Nat), .int .u64 (Oct.word y.s 2 : Nat), .int .u64 (Oct.word y.s 3 : Nat), .slice y.a y.n y.c, .int .i64 y.mn, .int .i64 y.mx] 28)) := (Below.refl _ _).alloc (Nat.le_refl _) _
  have HNy : Hid (NB (u4.alloc (.cells #[.int .i64 y.k, .int .u64 (Oct.word y.s 0 : Nat), .int .u64 (Oct.word y.s 1 : Nat), .int .u64 (Oct.word y.s 2 : Nat), .int .u64 (Oct.word y.s 3 : Nat), .slice y.a y.n y.c, .int .i64 y.mn, .int .i64 y.mx] 28)) u4.heap.size y) := nb_new u4 y
  obtain ⟨u5, hu5⟩ : ∃ u5, (u4.alloc (.cells #[.int .i64 y.k, .int .u64 (Oct.word y.s 0 : Nat), .int .u64 (Oct.word y.s 1 : Nat), .int .u64 (Oct.word y.s 2 : Nat), .int .u64 (Oct.word y.s 3 : Nat), .slice y.a y.n y.c, .int .i64 y.mn, .int .i64 y.mx] 28)) = u5 := ⟨_, rfl⟩
  rw [hu5] at kk HNy
  have HZu5 : Hid (u4.heap.size ≤ u5.heap.size) := kk.size
  have HB2 : Hid (Below w.heap.size w u5) := below_step HB.out kk
  clear HB; have HB : Hid (Below w.heap.size w u5) := HB2.out; clear HB2
  have Hx2 : Hid (Ow.NodeAt (fun b => u1.heap.size ≤ b ∧ b < u2.heap.size) u5 (treeOf p) x) := Hx.out.later kk
  clear Hx; have Hx : Hid (Ow.NodeAt (fun b => u1.heap.size ≤ b ∧ b < u2.heap.size) u5 (treeOf p) x) := Hx2.out; clear Hx2
  have HNx2 : Hid (NB u5 A3 x) := HNx.out.later kk
  clear HNx; have HNx : Hid (NB u5 A3 x) := HNx2.out; clear HNx2
  have Hy2 : Hid (Ow.NodeAt (fun b => u3.heap.size ≤ b ∧ b < u4.heap.size) u5 (treeOf q) y) := Hy.out.later kk
  clear Hy; have Hy : Hid (Ow.NodeAt (fun b => u3.heap.size ≤ b ∧ b < u4.heap.size) u5 (treeOf q) y) := Hy2.out; clear Hy2
  have HUu5 : Hid ((u4.alloc (.cells #[.int .i64 y.k, .int .u64 (Oct.word y.s 0 : Nat), .int .u64 (Oct.word y.s 1 : Nat), .int .u64 (Oct.word y.s 2 : Nat), .int .u64 (Oct.word y.s 3 : Nat), .slice y.a y.n y.c, .int .i64 y.mn, .int .i64 y.mx] 28)) = u5) := hu5
  clear kk hu5
  obtain ⟨A5, hA5⟩ : ∃ A5, u4.heap.size = A5 := ⟨_, rfl⟩
  rw [hA5] at HNy
  have HAA5 : Hid (u4.heap.size = A5) := hA5
  clear hA5
  unfold Nd.val
  go_upto_region 6 with fail
  rw [HUu5.out, HAA5.out]
  clear HUu5
  go_wp2_with fail
  refine (own_parse p _ (HGM.out.later HB.out)).mono ?_
  rintro e u6 ⟨kk, z, az, cz, rfl, hz⟩
  have HZu6 : Hid (u5.heap.size ≤ u6.heap.size) := kk.size
  have HB2 : Hid (Below w.heap.size w u6) := below_step HB.out kk
  clear HB; have HB : Hid (Below w.heap.size w u6) := HB2.out; clear HB2
  have Hx2 : Hid (Ow.NodeAt (fun b => u1.heap.size ≤ b ∧ b < u2.heap.size) u6 (treeOf p) x) := Hx.out.later kk
  clear Hx; have Hx : Hid (Ow.NodeAt (fun b => u1.heap.size ≤ b ∧ b < u2.heap.size) u6 (treeOf p) x) := Hx2.out; clear Hx2
  have HNx2 : Hid (NB u6 A3 x) := HNx.out.later kk
  clear HNx; have HNx : Hid (NB u6 A3 x) := HNx2.out; clear HNx2
  have Hy2 : Hid (Ow.NodeAt (fun b => u3.heap.size ≤ b ∧ b < u4.heap.size) u6 (treeOf q) y) := Hy.out.later kk
  clear Hy; have Hy : Hid (Ow.NodeAt (fun b => u3.heap.size ≤ b ∧ b < u4.heap.size) u6 (treeOf q) y) := Hy2.out; clear Hy2
  have HNy2 : Hid (NB u6 A5 y) := HNy.out.later kk
  clear HNy; have HNy : Hid (NB u6 A5 y) := HNy2.out; clear HNy2
  have Hz : Hid (Ow.NodeAt (fun b => u5.heap.size ≤ b ∧ b < u6.heap.size) u6 (treeOf p) z) := hz
  clear kk hz
  have kk : Below u6.heap.size u6 (u6.alloc (.cells #[.int .i64 z.k, .int .u64 (Oct.word z.s 0 : Nat), .int .u64 (Oct.word z.s 1 : Nat), .int .u64 (Oct.word z.s 2 : Nat), .int .u64 (Oct.word z.s 3 : Nat), .slice z.a z.n z.c, .int .i64 z.mn, .int .i64 z.mx] 28)) := (Below.refl _ _).alloc (Nat.le_refl _) _
  have HNz : Hid (NB (u6.alloc (.cells #[.int .i64 z.k, .int .u64 (Oct.word z.s 0 : Nat), .int .u64 (Oct.word z.s 1 : Nat), .int .u64 (Oct.word z.s 2 : Nat), .int .u64 (Oct.word z.s 3 : Nat), .slice z.a z.n z.c, .int .i64 z.mn, .int .i64 z.mx] 28)) u6.heap.size z) := nb_new u6 z
  obtain ⟨u7, hu7⟩ : ∃ u7, (u6.alloc (.cells #[.int .i64 z.k, .int .u64 (Oct.word z.s 0 : Nat), .int .u64 (Oct.word z.s 1 : Nat), .int .u64 (Oct.word z.s 2 : Nat), .int .u64 (Oct.word z.s 3 : Nat), .slice z.a z.n z.c, .int .i64 z.mn, .int .i64 z.mx] 28)) = u7 := ⟨_, rfl⟩
  rw [hu7] at kk HNz
  have HZu7 : Hid (u6.heap.size ≤ u7.heap.size) := kk.size
  have HB2 : Hid (Below w.heap.size w u7) := below_step HB.out kk
  clear HB; have HB : Hid (Below w.heap.size w u7) := HB2.out; clear HB2
  have Hx2 : Hid (Ow.NodeAt (fun b => u1.heap.size ≤ b ∧ b < u2.heap.size) u7 (treeOf p) x) := Hx.out.later kk
  clear Hx; have Hx : Hid (Ow.NodeAt (fun b => u1.heap.size ≤ b ∧ b < u2.heap.size) u7 (treeOf p) x) := Hx2.out; clear Hx2
  have HNx2 : Hid (NB u7 A3 x) := HNx.out.later kk
  clear HNx; have HNx : Hid (NB u7 A3 x) := HNx2.out; clear HNx2
  have Hy2 : Hid (Ow.NodeAt (fun b => u3.heap.size ≤ b ∧ b < u4.heap.size) u7 (treeOf q) y) := Hy.out.later kk
  clear Hy; have Hy : Hid (Ow.NodeAt (fun b => u3.heap.size ≤ b ∧ b < u4.heap.size) u7 (treeOf q) y) := Hy2.out; clear Hy2
  have HNy2 : Hid (NB u7 A5 y) := HNy.out.later kk
  clear HNy; have HNy : Hid (NB u7 A5 y) := HNy2.out; clear HNy2
  have Hz2 : Hid (Ow.NodeAt (fun b => u5.heap.size ≤ b ∧ b < u6.heap.size) u7 (treeOf p) z) := Hz.out.later kk
  clear Hz; have Hz : Hid (Ow.NodeAt (fun b => u5.heap.size ≤ b ∧ b < u6.heap.size) u7 (treeOf p) z) := Hz2.out; clear Hz2
  have HUu7 : Hid ((u6.alloc (.cells #[.int .i64 z.k, .int .u64 (Oct.word z.s 0 : Nat), .int .u64 (Oct.word z.s 1 : Nat), .int .u64 (Oct.word z.s 2 : Nat), .int .u64 (Oct.word z.s 3 : Nat), .slice z.a z.n z.c, .int .i64 z.mn, .int .i64 z.mx] 28)) = u7) := hu7
  clear kk hu7
  obtain ⟨A7, hA7⟩ : ∃ A7, u6.heap.size = A7 := ⟨_, rfl⟩
  rw [hA7] at HNz
  have HAA7 : Hid (u6.heap.size = A7) := hA7
  clear hA7
  unfold Nd.val
  go_upto_region 7 with fail
  rw [HUu7.out, HAA7.out]
  clear HUu7
  obtain ⟨d0, d1, d2, d3, d4, d5, d6, d7⟩ := HNx.out.cells
  have HC : Hid (Calls Try.prog 11 #[x.val] u7 _) := own_copy Hx.out.plain
  unfold Nd.val at HC
  go_wp2_with fail
  refine HC.out.mono ?_
  rintro e u8 ⟨⟨t, rfl, ht⟩, kk⟩
  have HZu8 : Hid (u7.heap.size ≤ u8.heap.size) := kk.size
  clear d0 d1 d2 d3 d4 d5 d6 d7 HC
  have HB2 : Hid (Below w.heap.size w u8) := below_step HB.out kk
  clear HB; have HB : Hid (Below w.heap.size w u8) := HB2.out; clear HB2
  have Hx2 : Hid (Ow.NodeAt (fun b => u1.heap.size ≤ b ∧ b < u2.heap.size) u8 (treeOf p) x) := Hx.out.later kk
  clear Hx; have Hx : Hid (Ow.NodeAt (fun b => u1.heap.size ≤ b ∧ b < u2.heap.size) u8 (treeOf p) x) := Hx2.out; clear Hx2
  have HNx2 : Hid (NB u8 A3 x) := HNx.out.later kk
  clear HNx; have HNx : Hid (NB u8 A3 x) := HNx2.out; clear HNx2
  have Hy2 : Hid (Ow.NodeAt (fun b => u3.heap.size ≤ b ∧ b < u4.heap.size) u8 (treeOf q) y) := Hy.out.later kk
  clear Hy; have Hy : Hid (Ow.NodeAt (fun b => u3.heap.size ≤ b ∧ b < u4.heap.size) u8 (treeOf q) y) := Hy2.out; clear Hy2
  have HNy2 : Hid (NB u8 A5 y) := HNy.out.later kk
  clear HNy; have HNy : Hid (NB u8 A5 y) := HNy2.out; clear HNy2
  have Hz2 : Hid (Ow.NodeAt (fun b => u5.heap.size ≤ b ∧ b < u6.heap.size) u8 (treeOf p) z) := Hz.out.later kk
  clear Hz; have Hz : Hid (Ow.NodeAt (fun b => u5.heap.size ≤ b ∧ b < u6.heap.size) u8 (treeOf p) z) := Hz2.out; clear Hz2
  have HNz2 : Hid (NB u8 A7 z) := HNz.out.later kk
  clear HNz; have HNz : Hid (NB u8 A7 z) := HNz2.out; clear HNz2
  have Ht : Hid (NodeAt (fun b => u7.heap.size ≤ b ∧ b < u8.heap.size) u8 (treeOf p) t) := ht
  clear kk ht
  have kk : Below u8.heap.size u8 (u8.alloc (.cells #[.int .i64 t.k, .int .u64 (Oct.word t.s 0 : Nat), .int .u64 (Oct.word t.s 1 : Nat), .int .u64 (Oct.word t.s 2 : Nat), .int .u64 (Oct.word t.s 3 : Nat), .slice t.a t.n t.c, .int .i64 t.mn, .int .i64 t.mx] 28)) := (Below.refl _ _).alloc (Nat.le_refl _) _
  have HNt : Hid (NB (u8.alloc (.cells #[.int .i64 t.k, .int .u64 (Oct.word t.s 0 : Nat), .int .u64 (Oct.word t.s 1 : Nat), .int .u64 (Oct.word t.s 2 : Nat), .int .u64 (Oct.word t.s 3 : Nat), .slice t.a t.n t.c, .int .i64 t.mn, .int .i64 t.mx] 28)) u8.heap.size t) := nb_new u8 t
  obtain ⟨u9, hu9⟩ : ∃ u9, (u8.alloc (.cells #[.int .i64 t.k, .int .u64 (Oct.word t.s 0 : Nat), .int .u64 (Oct.word t.s 1 : Nat), .int .u64 (Oct.word t.s 2 : Nat), .int .u64 (Oct.word t.s 3 : Nat), .slice t.a t.n t.c, .int .i64 t.mn, .int .i64 t.mx] 28)) = u9 := ⟨_, rfl⟩
  rw [hu9] at kk HNt
  have HZu9 : Hid (u8.heap.size ≤ u9.heap.size) := kk.size
  have HB2 : Hid (Below w.heap.size w u9) := below_step HB.out kk
  clear HB; have HB : Hid (Below w.heap.size w u9) := HB2.out; clear HB2
  have Hx2 : Hid (Ow.NodeAt (fun b => u1.heap.size ≤ b ∧ b < u2.heap.size) u9 (treeOf p) x) := Hx.out.later kk
  clear Hx; have Hx : Hid (Ow.NodeAt (fun b => u1.heap.size ≤ b ∧ b < u2.heap.size) u9 (treeOf p) x) := Hx2.out; clear Hx2
  have HNx2 : Hid (NB u9 A3 x) := HNx.out.later kk
  clear HNx; have HNx : Hid (NB u9 A3 x) := HNx2.out; clear HNx2
  have Hy2 : Hid (Ow.NodeAt (fun b => u3.heap.size ≤ b ∧ b < u4.heap.size) u9 (treeOf q) y) := Hy.out.later kk
  clear Hy; have Hy : Hid (Ow.NodeAt (fun b => u3.heap.size ≤ b ∧ b < u4.heap.size) u9 (treeOf q) y) := Hy2.out; clear Hy2
  have HNy2 : Hid (NB u9 A5 y) := HNy.out.later kk
  clear HNy; have HNy : Hid (NB u9 A5 y) := HNy2.out; clear HNy2
  have Hz2 : Hid (Ow.NodeAt (fun b => u5.heap.size ≤ b ∧ b < u6.heap.size) u9 (treeOf p) z) := Hz.out.later kk
  clear Hz; have Hz : Hid (Ow.NodeAt (fun b => u5.heap.size ≤ b ∧ b < u6.heap.size) u9 (treeOf p) z) := Hz2.out; clear Hz2
  have HNz2 : Hid (NB u9 A7 z) := HNz.out.later kk
  clear HNz; have HNz : Hid (NB u9 A7 z) := HNz2.out; clear HNz2
  have Ht2 : Hid (NodeAt (fun b => u7.heap.size ≤ b ∧ b < u8.heap.size) u9 (treeOf p) t) := Ht.out.later kk
  clear Ht; have Ht : Hid (NodeAt (fun b => u7.heap.size ≤ b ∧ b < u8.heap.size) u9 (treeOf p) t) := Ht2.out; clear Ht2
  have HUu9 : Hid ((u8.alloc (.cells #[.int .i64 t.k, .int .u64 (Oct.word t.s 0 : Nat), .int .u64 (Oct.word t.s 1 : Nat), .int .u64 (Oct.word t.s 2 : Nat), .int .u64 (Oct.word t.s 3 : Nat), .slice t.a t.n t.c, .int .i64 t.mn, .int .i64 t.mx] 28)) = u9) := hu9
  clear kk hu9
  obtain ⟨A9, hA9⟩ : ∃ A9, u8.heap.size = A9 := ⟨_, rfl⟩
  rw [hA9] at HNt
  have HAA9 : Hid (u8.heap.size = A9) := hA9
  clear hA9
  go_upto_region 8 with fail
  rw [HUu9.out, HAA9.out]
  clear HUu9
  obtain ⟨d0, d1, d2, d3, d4, d5, d6, d7⟩ := HNz.out.cells
  obtain ⟨f0, f1, f2, f3, f4, f5, f6, f7⟩ := HNt.out.cells
  have HC : Hid (Calls Try.prog 12 #[z.val, t.val] u9 _) := own_same Hz.out.plain Ht.out
  unfold Nd.val at HC
  go_wp2_with fail
  refine HC.out.mono ?_
  rintro e u10 ⟨rfl, kk⟩
  have HZu10 : Hid (u9.heap.size ≤ u10.heap.size) := kk.size
  clear d0 d1 d2 d3 d4 d5 d6 d7 f0 f1 f2 f3 f4 f5 f6 f7 HC
  have HB2 : Hid (Below w.heap.size w u10) := below_step HB.out kk
  clear HB; have HB : Hid (Below w.heap.size w u10) := HB2.out; clear HB2
  have Hx2 : Hid (Ow.NodeAt (fun b => u1.heap.size ≤ b ∧ b < u2.heap.size) u10 (treeOf p) x) := Hx.out.later kk
  clear Hx; have Hx : Hid (Ow.NodeAt (fun b => u1.heap.size ≤ b ∧ b < u2.heap.size) u10 (treeOf p) x) := Hx2.out; clear Hx2
  have HNx2 : Hid (NB u10 A3 x) := HNx.out.later kk
  clear HNx; have HNx : Hid (NB u10 A3 x) := HNx2.out; clear HNx2
  have Hy2 : Hid (Ow.NodeAt (fun b => u3.heap.size ≤ b ∧ b < u4.heap.size) u10 (treeOf q) y) := Hy.out.later kk
  clear Hy; have Hy : Hid (Ow.NodeAt (fun b => u3.heap.size ≤ b ∧ b < u4.heap.size) u10 (treeOf q) y) := Hy2.out; clear Hy2
  have HNy2 : Hid (NB u10 A5 y) := HNy.out.later kk
  clear HNy; have HNy : Hid (NB u10 A5 y) := HNy2.out; clear HNy2
  have Hz2 : Hid (Ow.NodeAt (fun b => u5.heap.size ≤ b ∧ b < u6.heap.size) u10 (treeOf p) z) := Hz.out.later kk
  clear Hz; have Hz : Hid (Ow.NodeAt (fun b => u5.heap.size ≤ b ∧ b < u6.heap.size) u10 (treeOf p) z) := Hz2.out; clear Hz2
  have HNz2 : Hid (NB u10 A7 z) := HNz.out.later kk
  clear HNz; have HNz : Hid (NB u10 A7 z) := HNz2.out; clear HNz2
  have Ht2 : Hid (NodeAt (fun b => u7.heap.size ≤ b ∧ b < u8.heap.size) u10 (treeOf p) t) := Ht.out.later kk
  clear Ht; have Ht : Hid (NodeAt (fun b => u7.heap.size ≤ b ∧ b < u8.heap.size) u10 (treeOf p) t) := Ht2.out; clear Ht2
  have HNt2 : Hid (NB u10 A9 t) := HNt.out.later kk
  clear HNt; have HNt : Hid (NB u10 A9 t) := HNt2.out; clear HNt2
  clear kk
  obtain ⟨d0, d1, d2, d3, d4, d5, d6, d7⟩ := HNx.out.cells
  obtain ⟨f0, f1, f2, f3, f4, f5, f6, f7⟩ := HNy.out.cells
  obtain ⟨g0, g1, g2, g3, g4, g5, g6, g7⟩ := HNz.out.cells
  have kk : Below u10.heap.size u10 (u10.alloc (.cells #[.int .i64 x.k, .int .u64 (Oct.word x.s 0 : Nat), .int .u64 (Oct.word x.s 1 : Nat), .int .u64 (Oct.word x.s 2 : Nat), .int .u64 (Oct.word x.s 3 : Nat), .slice x.a x.n x.c, .int .i64 x.mn, .int .i64 x.mx, .int .i64 y.k, .int .u64 (Oct.word y.s 0 : Nat), .int .u64 (Oct.word y.s 1 : Nat), .int .u64 (Oct.word y.s 2 : Nat), .int .u64 (Oct.word y.s 3 : Nat), .slice y.a y.n y.c, .int .i64 y.mn, .int .i64 y.mx, .int .i64 z.k, .int .u64 (Oct.word z.s 0 : Nat), .int .u64 (Oct.word z.s 1 : Nat), .int .u64 (Oct.word z.s 2 : Nat), .int .u64 (Oct.word z.s 3 : Nat), .slice z.a z.n z.c, .int .i64 z.mn, .int .i64 z.mx] 28)) := (Below.refl _ _).alloc (Nat.le_refl _) _
  obtain ⟨u11, hu11⟩ : ∃ u11, (u10.alloc (.cells #[.int .i64 x.k, .int .u64 (Oct.word x.s 0 : Nat), .int .u64 (Oct.word x.s 1 : Nat), .int .u64 (Oct.word x.s 2 : Nat), .int .u64 (Oct.word x.s 3 : Nat), .slice x.a x.n x.c, .int .i64 x.mn, .int .i64 x.mx, .int .i64 y.k, .int .u64 (Oct.word y.s 0 : Nat), .int .u64 (Oct.word y.s 1 : Nat), .int .u64 (Oct.word y.s 2 : Nat), .int .u64 (Oct.word y.s 3 : Nat), .slice y.a y.n y.c, .int .i64 y.mn, .int .i64 y.mx, .int .i64 z.k, .int .u64 (Oct.word z.s 0 : Nat), .int .u64 (Oct.word z.s 1 : Nat), .int .u64 (Oct.word z.s 2 : Nat), .int .u64 (Oct.word z.s 3 : Nat), .slice z.a z.n z.c, .int .i64 z.mn, .int .i64 z.mx] 28)) = u11 := ⟨_, rfl⟩
  rw [hu11] at kk 
  have HZu11 : Hid (u10.heap.size ≤ u11.heap.size) := kk.size
  have HB2 : Hid (Below w.heap.size w u11) := below_step HB.out kk
  clear HB; have HB : Hid (Below w.heap.size w u11) := HB2.out; clear HB2
  have Hx2 : Hid (Ow.NodeAt (fun b => u1.heap.size ≤ b ∧ b < u2.heap.size) u11 (treeOf p) x) := Hx.out.later kk
  clear Hx; have Hx : Hid (Ow.NodeAt (fun b => u1.heap.size ≤ b ∧ b < u2.heap.size) u11 (treeOf p) x) := Hx2.out; clear Hx2
  have HNx2 : Hid (NB u11 A3 x) := HNx.out.later kk
  clear HNx; have HNx : Hid (NB u11 A3 x) := HNx2.out; clear HNx2
  have Hy2 : Hid (Ow.NodeAt (fun b => u3.heap.size ≤ b ∧ b < u4.heap.size) u11 (treeOf q) y) := Hy.out.later kk
  clear Hy; have Hy : Hid (Ow.NodeAt (fun b => u3.heap.size ≤ b ∧ b < u4.heap.size) u11 (treeOf q) y) := Hy2.out; clear Hy2
  have HNy2 : Hid (NB u11 A5 y) := HNy.out.later kk
  clear HNy; have HNy : Hid (NB u11 A5 y) := HNy2.out; clear HNy2
  have Hz2 : Hid (Ow.NodeAt (fun b => u5.heap.size ≤ b ∧ b < u6.heap.size) u11 (treeOf p) z) := Hz.out.later kk
  clear Hz; have Hz : Hid (Ow.NodeAt (fun b => u5.heap.size ≤ b ∧ b < u6.heap.size) u11 (treeOf p) z) := Hz2.out; clear Hz2
  have HNz2 : Hid (NB u11 A7 z) := HNz.out.later kk
  clear HNz; have HNz : Hid (NB u11 A7 z) := HNz2.out; clear HNz2
  have Ht2 : Hid (NodeAt (fun b => u7.heap.size ≤ b ∧ b < u8.heap.size) u11 (treeOf p) t) := Ht.out.later kk
  clear Ht; have Ht : Hid (NodeAt (fun b => u7.heap.size ≤ b ∧ b < u8.heap.size) u11 (treeOf p) t) := Ht2.out; clear Ht2
  have HNt2 : Hid (NB u11 A9 t) := HNt.out.later kk
  clear HNt; have HNt : Hid (NB u11 A9 t) := HNt2.out; clear HNt2
  have HUu11 : Hid ((u10.alloc (.cells #[.int .i64 x.k, .int .u64 (Oct.word x.s 0 : Nat), .int .u64 (Oct.word x.s 1 : Nat), .int .u64 (Oct.word x.s 2 : Nat), .int .u64 (Oct.word x.s 3 : Nat), .slice x.a x.n x.c, .int .i64 x.mn, .int .i64 x.mx, .int .i64 y.k, .int .u64 (Oct.word y.s 0 : Nat), .int .u64 (Oct.word y.s 1 : Nat), .int .u64 (Oct.word y.s 2 : Nat), .int .u64 (Oct.word y.s 3 : Nat), .slice y.a y.n y.c, .int .i64 y.mn, .int .i64 y.mx, .int .i64 z.k, .int .u64 (Oct.word z.s 0 : Nat), .int .u64 (Oct.word z.s 1 : Nat), .int .u64 (Oct.word z.s 2 : Nat), .int .u64 (Oct.word z.s 3 : Nat), .slice z.a z.n z.c, .int .i64 z.mn, .int .i64 z.mx] 28)) = u11) := hu11
  clear kk hu11
  have HR : Hid (Ytlcnmfgmgiijpaa.RowAt (fun b => TyB u11 28 b) u11 (some ⟨u10.heap.size, 0, none⟩) [x, y, z]) := by rw [← HUu11.out]; exact row3 u10 x y z
  obtain ⟨A11, hA11⟩ : ∃ A11, u10.heap.size = A11 := ⟨_, rfl⟩
  rw [hA11] at HR
  have HAA11 : Hid (u10.heap.size = A11) := hA11
  clear hA11
  go_upto_region 11 with fail
  rw [HUu11.out, HAA11.out]
  clear HUu11 d0 d1 d2 d3 d4 d5 d6 d7 f0 f1 f2 f3 f4 f5 f6 f7 g0 g1 g2 g3 g4 g5 g6 g7
  obtain ⟨Lx, gx, ox, nx, lx⟩ := glo Hx.out (tree_sm p)
  obtain ⟨Ly, gy, oy, ny, ly⟩ := glo Hy.out (tree_sm q)
  obtain ⟨Lz, gz, oz, nz, lz⟩ := glo Hz.out (tree_sm p)
  have HLL : Hid ((Lx ++ (Ly ++ Lz)).length ≤ 9000) := by
    show _ ≤ _
    have e1 := tree_nl p
    have e2 := tree_nl q
    simp only [List.length_append]
    omega
  have HON : Hid (∀ l ∈ Lx ++ (Ly ++ Lz), (w.heap.size ≤ l.g ∧ l.g < u7.heap.size) ∧ OwnB u11 l) := fun l hl => by
    have z1 := HZu1.out
    have z2 := HZu2.out
    have z3 := HZu3.out
    have z4 := HZu4.out
    have z5 := HZu5.out
    have z6 := HZu6.out
    have z7 := HZu7.out
    rcases List.mem_append.1 hl with hl | hl
    · exact ⟨by have := (ox l hl).1; omega, (ox l hl).2⟩
    rcases List.mem_append.1 hl with hl | hl
    · exact ⟨by have := (oy l hl).1; omega, (oy l hl).2⟩
    · exact ⟨by have := (oz l hl).1; omega, (oz l hl).2⟩
  have HND : Hid (((Lx ++ (Ly ++ Lz)).map Ls.g).Nodup) := by
    show List.Nodup _
    have z3 := HZu3.out
    have z5 := HZu5.out
    have z4 := HZu4.out
    rw [List.map_append, List.map_append, List.nodup_append, List.nodup_append]
    refine ⟨nx, ⟨ny, nz, fun a ha b hb e => ?_⟩, fun a ha b hb e => ?_⟩
    · obtain ⟨l1, h1, rfl⟩ := List.mem_map.1 ha
      obtain ⟨l2, h2, rfl⟩ := List.mem_map.1 hb
      have e1 := (oy l1 h1).1
      have e2 := (oz l2 h2).1
      omega
    · obtain ⟨l1, h1, rfl⟩ := List.mem_map.1 ha
      have e1 := (ox l1 h1).1
      rcases List.mem_append.1 hb with hb | hb
      · obtain ⟨l2, h2, rfl⟩ := List.mem_map.1 hb
        have e2 := (oy l2 h2).1
        omega
      · obtain ⟨l2, h2, rfl⟩ := List.mem_map.1 hb
        have e2 := (oz l2 h2).1
        omega
  have HGL : Hid (∀ (i : Nat) (v : Nd) (L : List Ls), [x, y, z][i]? = some v → [Lx, Ly, Lz][i]? = some L → GL u11 v L) := fun i v L hv hL => by
    match i with
    | 0 => simp at hv hL; subst hv hL; exact gx
    | 1 => simp at hv hL; subst hv hL; exact gy
    | 2 => simp at hv hL; subst hv hL; exact gz
    | i + 3 => simp at hv
  have HSM : Hid (∀ l ∈ Lx ++ (Ly ++ Lz), l.n ≤ 100000) := fun l hl => by
    rcases List.mem_append.1 hl with hl | hl
    · exact gx.few l hl
    rcases List.mem_append.1 hl with hl | hl
    · exact gy.few l hl
    · exact gz.few l hl
  clear gx gy gz ox oy oz nx ny nz lx ly lz
  go_loopw [5, 62] (fun v i u => ∃ m : Nat, i = .int .i64 (m : Nat) ∧ m ≤ 3 ∧ Hid (Rowl u u11.heap.size v (([Lx, Ly, Lz].take m).flatten)) ∧ Hid (Gf u11.heap.size u11 u)) (fun _ i _ => 3 - (intOf i).toNat)
  case atStart => exact ⟨0, rfl, Nat.zero_le _, rowl_nil _ _, Gf.refl _ _⟩
  case round =>
    obtain ⟨m, rfl, hmn, hrl, hgf⟩ := hrel
    by_cases hlt : m < 3
    · have hlt' : (m : Int) < 3 := by omega
      obtain ⟨v, hv⟩ : ∃ v, [x, y, z][m]? = some v := ⟨_, List.getElem?_eq_getElem hlt⟩
      obtain ⟨L1, hL1⟩ : ∃ L1, [Lx, Ly, Lz][m]? = some L1 := ⟨_, List.getElem?_eq_getElem hlt⟩
      have hrow := (HR.out.keep (w' := wr) (Y := fun _ => True) (fun _ _ _ => trivial) (fun b hb hlt => hgf.out.block b hlt (fun _ h3 => absurd (TyB.ne hb h3) (by decide)))).nth hv
      obtain ⟨g, off, hgo, e0, e1, e2, e3, e4, e5, e6, e7⟩ := hrow
      cases hgo
      simp only [Nat.zero_add] at e0 e1 e2 e3 e4 e5 e6 e7
      have HTK : Hid (([Lx, Ly, Lz].take (m + 1)).flatten = ([Lx, Ly, Lz].take m).flatten ++ L1) := by show _ = _; rw [List.take_add_one, hL1]; simp
      have HPL : Hid ((([Lx, Ly, Lz].take m).flatten).length + L1.length ≤ 1000000) := by
        show _ ≤ _
        rw [← List.length_append, ← HTK.out]
        have h1 := HLL.out
        have h2 : (([Lx, Ly, Lz].take (m + 1)).flatten).length ≤ ([Lx, Ly, Lz].flatten).length := by
          conv => rhs; rw [← List.take_append_drop (m + 1) [Lx, Ly, Lz], List.flatten_append, List.length_append]
          omega
        have h3 : [Lx, Ly, Lz].flatten = Lx ++ (Ly ++ Lz) := by simp
        rw [h3] at h2
        omega
      have HG1 := HGL.out m v L1 hv hL1
      obtain ⟨Q, hQ⟩ : ∃ Q, ([Lx, Ly, Lz].take m).flatten = Q := ⟨_, rfl⟩
      rw [hQ] at hrl HPL HTK
      have kk : Below wr.heap.size wr (wr.alloc (.cells #[.int .i64 v.k, .int .u64 (Oct.word v.s 0 : Nat), .int .u64 (Oct.word v.s 1 : Nat), .int .u64 (Oct.word v.s 2 : Nat), .int .u64 (Oct.word v.s 3 : Nat), .slice v.a v.n v.c, .int .i64 v.mn, .int .i64 v.mx] 28)) := (Below.refl _ _).alloc (Nat.le_refl _) _
      have HNV : Hid (NB (wr.alloc (.cells #[.int .i64 v.k, .int .u64 (Oct.word v.s 0 : Nat), .int .u64 (Oct.word v.s 1 : Nat), .int .u64 (Oct.word v.s 2 : Nat), .int .u64 (Oct.word v.s 3 : Nat), .slice v.a v.n v.c, .int .i64 v.mn, .int .i64 v.mx] 28)) wr.heap.size v) := nb_new wr v
      have HR3 : Hid (Rowl (wr.alloc (.cells #[.int .i64 v.k, .int .u64 (Oct.word v.s 0 : Nat), .int .u64 (Oct.word v.s 1 : Nat), .int .u64 (Oct.word v.s 2 : Nat), .int .u64 (Oct.word v.s 3 : Nat), .slice v.a v.n v.c, .int .i64 v.mn, .int .i64 v.mx] 28)) u11.heap.size u5 Q) := hrl.out.keep (fun b _ hlt _ => kk.block b hlt)
      have HG3 : Hid (Gf u11.heap.size u11 (wr.alloc (.cells #[.int .i64 v.k, .int .u64 (Oct.word v.s 0 : Nat), .int .u64 (Oct.word v.s 1 : Nat), .int .u64 (Oct.word v.s 2 : Nat), .int .u64 (Oct.word v.s 3 : Nat), .slice v.a v.n v.c, .int .i64 v.mn, .int .i64 v.mx] 28))) := hgf.out.later kk
      obtain ⟨w3, hw3⟩ : ∃ w3, wr.alloc (.cells #[.int .i64 v.k, .int .u64 (Oct.word v.s 0 : Nat), .int .u64 (Oct.word v.s 1 : Nat), .int .u64 (Oct.word v.s 2 : Nat), .int .u64 (Oct.word v.s 3 : Nat), .slice v.a v.n v.c, .int .i64 v.mn, .int .i64 v.mx] 28) = w3 := ⟨_, rfl⟩
      rw [hw3] at HNV HR3 HG3
      obtain ⟨B, hB⟩ : ∃ B, wr.heap.size = B := ⟨_, rfl⟩
      rw [hB] at HNV
      have HW3 : Hid (wr.alloc (.cells #[.int .i64 v.k, .int .u64 (Oct.word v.s 0 : Nat), .int .u64 (Oct.word v.s 1 : Nat), .int .u64 (Oct.word v.s 2 : Nat), .int .u64 (Oct.word v.s 3 : Nat), .slice v.a v.n v.c, .int .i64 v.mn, .int .i64 v.mx] 28) = w3) := hw3
      have HBB : Hid (wr.heap.size = B) := hB
      clear hw3 hB kk hQ hL1 hv
      have HC : Hid (Calls Try.prog 13 #[u5, v.val, .int .i64 0] w3 _) := gather_any HG1 w3 u11.heap.size u5 Q 0 HG3.out HR3.out HG3.out.size HPL.out
      unfold Nd.val at HC
      clear HG1
      go_upto_region 13 with fail
      rw [HW3.out, HBB.out]
      clear HW3 HBB e0 e1 e2 e3 e4 e5 e6 e7
      obtain ⟨e0, e1, e2, e3, e4, e5, e6, e7⟩ := HNV.out.cells
      go_wp2_with fail
      refine HC.out.mono ?_
      rintro e w4 ⟨V4, rfl, hr4, hf4⟩
      have HR4 : Hid (Rowl w4 u11.heap.size V4 (Q ++ L1)) := hr4
      have HG4 : Hid (Gf u11.heap.size u11 w4) := HG3.out.trans hf4
      clear hr4 hf4 e0 e1 e2 e3 e4 e5 e6 e7 HC
      go_wp2
      go_roundw
      case rel => exact ⟨m + 1, by go_num, by omega, by rw [HTK.out]; exact HR4, HG4⟩
      case measure => simp [intOf]; omega
    · have hlt' : ¬ (m : Int) < 3 := by omega
      have hm : m = 3 := by omega
      subst hm
      have HRL : Hid (Rowl wr u11.heap.size u5 (Lx ++ (Ly ++ Lz))) := by
        have h3 : ([Lx, Ly, Lz].take 3).flatten = Lx ++ (Ly ++ Lz) := by simp
        rw [h3] at hrl
        exact hrl
      clear hrl
      obtain ⟨a, c, hV, hac, hcm, hrd⟩ := HRL.out.form
      subst hV
      obtain ⟨L0, hL0⟩ : ∃ L0, Lx ++ (Ly ++ Lz) = L0 := ⟨_, rfl⟩
      rw [hL0] at hac hrd HLL HND HON HSM ⊢
      have hgk : ∀ k, k < u11.heap.size → wr.heap[k]? = u11.heap[k]? := fun k hk => hgf.out.block k hk (fun h => absurd h (by omega))
      have hZ : u8.heap.size ≤ u11.heap.size := by have h1 := HZu9.out; have h2 := HZu10.out; have h3 := HZu11.out; omega
      have hZ7 : u7.heap.size ≤ u8.heap.size := HZu8.out
      have HW0 : Hid (w.heap.size ≤ u11.heap.size) := HB.out.size
      have HBr : Hid (Below w.heap.size w wr) := ⟨hgf.out.os.trans HB.out.os, hgf.out.tape.trans HB.out.tape, hgf.out.output.trans HB.out.output, Nat.le_trans HB.out.size hgf.out.size, fun k hk => (hgk k (by have := HW0.out; omega)).trans (HB.out.block k hk)⟩
      have Htr : Hid (NodeAt (fun b => u7.heap.size ≤ b ∧ b < u8.heap.size) wr (treeOf p) t) := Ht.out.keep (fun _ h _ => h) (fun b _ hlt => hgk b hlt)
      have hA9 : A9 < u11.heap.size := by obtain ⟨cur, h⟩ : ∃ cur, u11.heap[A9]? = some cur := ⟨_, HNt.out⟩; exact (Array.getElem?_eq_some_iff.1 h).1
      have HNr : Hid (NB wr A9 t) := (hgk A9 hA9).trans HNt.out
      have h79 : u7.heap.size ≤ A9 := by have := HAA9.out; omega
      have HOr : Hid (∀ l ∈ L0.take 600, (w.heap.size ≤ l.g ∧ l.g < u7.heap.size) ∧ OwnB wr l) := fun l hl => by
        obtain ⟨h1, h2⟩ := HON.out l (List.mem_of_mem_take hl)
        exact ⟨h1, h2.same (hgk l.g (by omega))⟩
      have HSr : Hid (∀ l ∈ L0.take 600, l.n ≤ 100000) := fun l hl => HSM.out l (List.mem_of_mem_take hl)
      have HNr2 : Hid (((L0.take 600).map Ls.g).Nodup) := HND.out.sublist ((List.take_sublist 600 L0).map Ls.g)
      have HRr : Hid (Rdl wr a u11.heap.size wr.heap.size (L0.take 600)) := hrd.take 600
      have HU11 : Hid (A9 < u11.heap.size ∧ u7.heap.size ≤ A9 ∧ u8.heap.size ≤ u11.heap.size ∧ u7.heap.size ≤ u8.heap.size ∧ u11.heap.size ≤ wr.heap.size) := ⟨hA9, h79, hZ, hZ7, hgf.out.size⟩
      obtain ⟨L, hL⟩ : ∃ L, L0.take 600 = L := ⟨_, rfl⟩
      obtain ⟨N, hN⟩ : ∃ N, L.length = N := ⟨_, rfl⟩
      have hNn : N = min 600 L0.length := by rw [← hN, ← hL, List.length_take]
      rw [hL] at HOr HNr2 HRr HSr
      have HLN : Hid (L.length = N) := hN
      obtain ⟨n0, hn0⟩ : ∃ n0, L0.length = n0 := ⟨_, rfl⟩
      rw [hn0] at hNn hac ⊢
      have hn9 : n0 ≤ 9000 := by have := HLL.out; omega
      clear hL0 HLL HND HON HSM hrd hgk hZ hZ7 hA9 h79 HRL hL hN hn0 HB Ht HNt Hx Hy Hz HNx HNy HNz HR HGL hgf
      obtain ⟨s7, hs7⟩ : ∃ s7, u7.heap.size = s7 := ⟨_, rfl⟩
      obtain ⟨s8, hs8⟩ : ∃ s8, u8.heap.size = s8 := ⟨_, rfl⟩
      obtain ⟨s11, hs11⟩ : ∃ s11, u11.heap.size = s11 := ⟨_, rfl⟩
      rw [hs7] at Htr HOr HU11
      rw [hs8] at Htr HU11
      rw [hs11] at HRr HU11 HW0
      clear hs7 hs8 hs11
      go_upto_if 72 with fail
      go_cut [5] (fun v wx => v = .slice a N c ∧ wx = wr)
      case first =>
        by_cases h6 : 600 < n0
        · have h6' : (600 : Int) < (n0 : Int) := by omega
          have hN6 : N = 600 := by omega
          go_wp2_with fail
          go_meet
          case rel => exact ⟨by rw [hN6], rfl⟩
        · have h6' : ¬ (600 : Int) < (n0 : Int) := by omega
          have hN6 : N = n0 := by omega
          go_wp2_with fail
          go_meet
          case rel => exact ⟨by rw [hN6], rfl⟩
      case rest =>
      obtain ⟨rfl, hwr⟩ := hcut
      subst hwr
      obtain ⟨v0, hv0⟩ : ∃ v0 : World, v0 = wc := ⟨_, rfl⟩
      subst hv0
      clear hlt hlt' hmn
      have hN6 : N ≤ 600 := by omega
      have hNc : N ≤ c := by omega
      clear hNn hac hn9
      go_wp2_with fail
      go_loopw [77] (fun i u => ∃ m : Nat, i = .int .i64 (m : Nat) ∧ m ≤ N ∧ Hid (Wr u L m) ∧ Hid (Fx (fun k => w.heap.size ≤ k ∧ k < s7) v0 u)) (fun i _ => N - (intOf i).toNat)
      case atStart => exact ⟨0, rfl, Nat.zero_le _, wr_start (fun l hl => (HOr.out l hl).2), Fx.refl _ _⟩
      case round =>
        obtain ⟨m, rfl, hmn, HWr, HFx⟩ := hrel
        by_cases hlt : m < N
        · have hlt' : (m : Int) < (N : Int) := by omega
          obtain ⟨l, hl⟩ : ∃ l, L[m]? = some l := ⟨_, List.getElem?_eq_getElem (by rw [HLN.out]; exact hlt)⟩
          have HRm : Hid (Rdl wr a s11 v0.heap.size L) := HRr.out.keep (fun b h1 h2 => HFx.out.block b h2 (fun h => by have := HU11.out; omega))
          obtain ⟨ga, ha, hcl⟩ := HRm.out.at hl
          obtain ⟨hls, hlo⟩ := HOr.out l (List.mem_of_getElem? hl)
          obtain ⟨r0, hf0, _⟩ := HWr.out m l hl
          have HF0 : Hid (Full wr l 0 (100 + m)) := hf0.zero
          have HLl : Hid (L[m]? = some l) := hl
          have HLS : Hid (w.heap.size ≤ l.g ∧ l.g < s7) := hls
          have hln : l.n ≤ l.c ∧ l.c ≤ maxLen := by obtain ⟨_, _, _, h1, h2, _⟩ := hlo; exact ⟨h1, h2⟩
          obtain ⟨hln1, hln2⟩ := hln
          simp only [maxLen] at hln2
          clear hl hlo hls hf0 HRm
          subst ha
          obtain ⟨v1, hv1⟩ : ∃ v1 : World, v1 = wr := ⟨_, rfl⟩
          subst hv1
          go_wp2_with fail
          go_loopw [84] (fun i u => ∃ r : Nat, i = .int .i64 (r : Nat) ∧ r ≤ l.n ∧ Hid (Full u l r (100 + m)) ∧ Hid (Fx (fun k => k = l.g) v1 u)) (fun i _ => l.n - (intOf i).toNat)
          case atStart => exact ⟨0, rfl, Nat.zero_le _, HF0, Fx.refl _ _⟩
          case round =>
            obtain ⟨r, rfl, hrn, HFr, HFx2⟩ := hrel
            by_cases hrl : r < l.n
            · have hrl' : (r : Int) < (l.n : Int) := by omega
              obtain ⟨q0, c0⟩ := HFr.out.there hrl 0 (by decide)
              obtain ⟨q1, c1⟩ := HFr.out.there hrl 1 (by decide)
              obtain ⟨q2, c2⟩ := HFr.out.there hrl 2 (by decide)
              obtain ⟨q3, c3⟩ := HFr.out.there hrl 3 (by decide)
              obtain ⟨q4, c4⟩ := HFr.out.there hrl 4 (by decide)
              obtain ⟨q5, c5⟩ := HFr.out.there hrl 5 (by decide)
              obtain ⟨q6, c6⟩ := HFr.out.there hrl 6 (by decide)
              obtain ⟨q7, c7⟩ := HFr.out.there hrl 7 (by decide)
              simp only [Nat.add_zero] at c0
              have y0 := HFr.out.thaw (r * 8)
              have y1 := HFr.out.thaw (r * 8 + 1)
              have y2 := HFr.out.thaw (r * 8 + 2)
              have y3 := HFr.out.thaw (r * 8 + 3)
              have y4 := HFr.out.thaw (r * 8 + 4)
              have y5 := HFr.out.thaw (r * 8 + 5)
              have y6 := HFr.out.thaw (r * 8 + 6)
              have y7 := HFr.out.thaw (r * 8 + 7)
              have hcast : ((100 + m : Nat) : Int) = 100 + (m : Int) := by omega
              have HP := HFr.out.put hrl
              have HQ := HFx2.out.trans (Fx.put (S := fun k => k = l.g) wr l.g (r * 8) (100 + m) rfl) (fun _ _ h => h)
              unfold put8at at HP HQ
              rw [hcast] at HP HQ
              have HP2 : Hid _ := HP
              have HQ2 : Hid _ := HQ
              clear HP HQ hcast
              go_wp2_with fail
              go_roundw
              case rel => exact ⟨r + 1, by go_num, by omega, HP2, HQ2⟩
              case measure => simp [intOf]; omega
            · have hrl' : ¬ (r : Int) < (l.n : Int) := by omega
              have hrr : r = l.n := by omega
              subst hrr
              have HW2 : Hid (Wr wr L (m + 1)) := HWr.out.next HLl.out HNr2.out HFr.out (fun b hb hne => HFx2.out.block b hb hne)
              have HF2 : Hid (Fx (fun k => w.heap.size ≤ k ∧ k < s7) v0 wr) := HFx.out.trans HFx2.out (fun k _ h => by have := HLS.out; have h : k = l.g := h; omega)
              go_wp2_with fail
              go_roundw
              case rel => exact ⟨m + 1, by go_num, by omega, HW2, HF2⟩
              case measure => simp [intOf]; omega
        · have hlt' : ¬ (m : Int) < (N : Int) := by omega
          have hmN : N = m := by omega
          subst hmN
          have HLo : Hid (Lo wr L [] wr.heap.size) := ⟨fun j l hl => by
            obtain ⟨r, h1, h2⟩ := HWr.out j l hl
            rw [h2 (by rw [← HLN.out]; exact (List.getElem?_eq_some_iff.1 hl).1)] at h1
            exact h1, fun j k h => by simp at h⟩
          have HE : Hid (v0.heap.size ≤ wr.heap.size) := HFx.out.size
          obtain ⟨v2, hv2⟩ : ∃ v2 : World, v2 = wr := ⟨_, rfl⟩
          subst hv2
          clear hlt hmn HWr
          go_wp2_with fail
          go_loopw [21, 97] (fun V i u => ∃ (m : Nat) (M : List Ls), i = .int .i64 (m : Nat) ∧ m ≤ N ∧ Hid (M.length = m) ∧ Hid (Rowl u v2.heap.size V M) ∧ Hid (Lo u L M v2.heap.size) ∧ Hid (Fx (fun k => w.heap.size ≤ k ∧ k < s7) v2 u)) (fun _ i _ => N - (intOf i).toNat)
          case atStart => exact ⟨0, [], rfl, Nat.zero_le _, rfl, rowl_nil _ _, HLo, Fx.refl _ _⟩
          case round =>
            obtain ⟨m, M, rfl, hmn, HML, HRw, HLo4, HF4⟩ := hrel
            by_cases hlt : m < N
            · have hlt' : (m : Int) < (N : Int) := by omega
              obtain ⟨l, hl⟩ : ∃ l, L[m]? = some l := ⟨_, List.getElem?_eq_getElem (by rw [HLN.out]; exact hlt)⟩
              have HRm : Hid (Rdl wr a s11 v0.heap.size L) := HRr.out.keep (fun b h1 h2 => (HF4.out.block b (by have := HE.out; omega) (fun h => by have := HU11.out; omega)).trans (HFx.out.block b h2 (fun h => by have := HU11.out; omega)))
              obtain ⟨ga, ha, hcl⟩ := HRm.out.at hl
              have HFl : Hid (Full wr l l.n (100 + m)) := HLo4.out.1 m l hl
              have HLS : Hid (w.heap.size ≤ l.g ∧ l.g < s7) := (HOr.out l (List.mem_of_getElem? hl)).1
              have HSn : Hid (l.n ≤ 100000) := HSr.out l (List.mem_of_getElem? hl)
              have HLl : Hid (L[m]? = some l) := hl
              clear hl HRm
              subst ha
              obtain ⟨v3, hv3⟩ : ∃ v3 : World, v3 = wr := ⟨_, rfl⟩
              subst hv3
              go_wp2_with fail
              go_loopw [23, 102] (fun V i u => ∃ (r : Nat) (k : Ls), V = .slice (some ⟨k.g, 0, none⟩) k.n k.c ∧ i = .int .i64 (r : Nat) ∧ r ≤ 20 ∧ Hid (k.n = l.n + r) ∧ Hid (Full u k k.n (100 + m)) ∧ Hid (Full u l l.n (100 + m)) ∧ Hid (k.g = l.g ∧ k.c = l.c ∨ v3.heap.size ≤ k.g) ∧ Hid (Fx (fun b => b = l.g) v3 u)) (fun _ i _ => 20 - (intOf i).toNat)
              case atStart => exact ⟨0, l, rfl, rfl, Nat.zero_le _, rfl, HFl, HFl, Or.inl ⟨rfl, rfl⟩, Fx.refl _ _⟩
              case round =>
                obtain ⟨r, k, rfl, rfl, hrn, HKN, HKF, HLF, HKG, HF5⟩ := hrel
                by_cases hrl : r < 20
                · have hrl' : (r : Int) < 20 := by omega
                  have kk : Below wr.heap.size wr (wr.alloc (.cells #[.int .i64 (100 + (m : Int)), .int .u64 0, .int .u64 0, .int .u64 0, .int .u64 0, .slice none 0 0, .int .i64 0, .int .i64 0] 28)) := (Below.refl _ _).alloc (Nat.le_refl _) _
                  have HK3 : Hid (Full (wr.alloc (.cells #[.int .i64 (100 + (m : Int)), .int .u64 0, .int .u64 0, .int .u64 0, .int .u64 0, .slice none 0 0, .int .i64 0, .int .i64 0] 28)) k k.n (100 + m)) := HKF.out.same (kk.block _ HKF.out.lt)
                  have HL3 : Hid (Full (wr.alloc (.cells #[.int .i64 (100 + (m : Int)), .int .u64 0, .int .u64 0, .int .u64 0, .int .u64 0, .slice none 0 0, .int .i64 0, .int .i64 0] 28)) l l.n (100 + m)) := HLF.out.same (kk.block _ HLF.out.lt)
                  have HF6 : Hid (Fx (fun b => b = l.g) v3 (wr.alloc (.cells #[.int .i64 (100 + (m : Int)), .int .u64 0, .int .u64 0, .int .u64 0, .int .u64 0, .slice none 0 0, .int .i64 0, .int .i64 0] 28))) := HF5.out.trans (T := fun _ => False) (Fx.of_below kk (fun k h1 h2 => absurd h1 (by omega))) (fun _ _ h => h.elim)
                  have HC3 : Hid (∀ j v, (mk1 (100 + m)).cells[j]? = some v → (wr.alloc (.cells #[.int .i64 (100 + (m : Int)), .int .u64 0, .int .u64 0, .int .u64 0, .int .u64 0, .slice none 0 0, .int .i64 0, .int .i64 0] 28)).cell? ((⟨wr.heap.size, 0, none⟩ : Addr).add j) = some v) := fun j v hj => by
                    rw [mk1_cells, show ((100 + m : Nat) : Int) = 100 + (m : Int) by omega] at hj
                    have e : ((⟨wr.heap.size, 0, none⟩ : Addr).add j) = ⟨wr.heap.size, j, none⟩ := by simp [Addr.add]; omega
                    rw [e]
                    simp only [World.cell?, heap_alloc_new]
                    rw [← Array.getElem?_toList]
                    exact hj
                  have HKL : Hid (k.n ≤ 1000000) := by have h1 := HKN.out; have h2 := HSn.out; show _ ≤ _; omega
                  clear kk
                  go_wp2_with (at_builtin; go_must (refine wpList_append_more rfl _ _ rfl k (100 + m) rfl HK3.out ⟨wr.heap.size, 0, none⟩ 1 rfl HC3.out HKL.out ?_; intro k' w6 hn6 hf6 hm6; have HN6 : Hid (k'.n = k.n + 1) := hn6; have HK6 : Hid (Full w6 k' k'.n (100 + m)) := hf6; have HM6 : Hid (More (wr.alloc (.cells #[.int .i64 (100 + (m : Int)), .int .u64 0, .int .u64 0, .int .u64 0, .int .u64 0, .slice none 0 0, .int .i64 0, .int .i64 0] 28)) w6 k k') := hm6; clear hn6 hf6 hm6; unfold Ls.val))
                  have HL6 : Hid (Full w6 l l.n (100 + m)) := by
                    rcases HM6.out with ⟨h1, h2, h3⟩ | ⟨h1, h3⟩
                    · rcases HKG.out with ⟨h4, h5⟩ | h4
                      · exact HK6.out.shrink (by rw [h1, h4]) (by rw [h2, h5]) (by have e1 := HN6.out; have e2 := HKN.out; omega)
                      · exact HL3.out.same (h3.block _ HL3.out.lt (fun e => by have e := Option.some.inj e; have := HFl.out.lt; omega))
                    · exact HL3.out.same (h3.block _ HL3.out.lt (fun e => by cases e))
                  have HG6 : Hid (k'.g = l.g ∧ k'.c = l.c ∨ v3.heap.size ≤ k'.g) := by
                    rcases HM6.out with ⟨h1, h2, h3⟩ | ⟨h1, h3⟩
                    · rw [h1, h2]; exact HKG.out
                    · exact Or.inr (by rw [h1]; exact HF6.out.size)
                  have HX6 : Hid (Fx (fun b => b = l.g) v3 w6) := by
                    rcases HM6.out with ⟨h1, h2, h3⟩ | ⟨h1, h3⟩
                    · exact HF6.out.trans (Fx.own (S := fun b => b = k.g) h3 (fun b e => by cases e; rfl)) (fun b hb e => by
                        have e : b = k.g := e
                        rcases HKG.out with ⟨h4, h5⟩ | h4
                        · exact e.trans h4
                        · omega)
                    · exact HF6.out.trans (Fx.own (S := fun _ => False) h3 (fun b e => by cases e)) (fun b hb e => e.elim)
                  go_roundw
                  case rel => exact ⟨r + 1, k', rfl, by go_num, by omega, (by have e1 := HN6.out; have e2 := HKN.out; show _ = _; omega), HK6, HL6, HG6, HX6⟩
                  case measure => simp [intOf]; omega
                · have hrl' : ¬ (r : Int) < 20 := by omega
                  have HKL : Hid (k.n ≤ 1000000) := by have h1 := HKN.out; have h2 := HSn.out; show _ ≤ _; omega
                  have HLG : Hid (l.g < v2.heap.size) := by have h1 := HLS.out; have h2 := HU11.out; have h3 := HE.out; show _ < _; omega
                  have HR5 : Hid (Rowl wr v2.heap.size u21 M) := HRw.out.keep (fun b h1 h2 _ => HF5.out.block b h2 (fun e => by have e : b = l.g := e; have := HLG.out; omega))
                  have k3 : Below wr.heap.size wr (wr.alloc (.cells #[.slice (some ⟨k.g, 0, none⟩) k.n k.c] 26)) := (Below.refl _ _).alloc (Nat.le_refl _) _
                  have HR3 : Hid (Rowl (wr.alloc (.cells #[.slice (some ⟨k.g, 0, none⟩) k.n k.c] 26)) v2.heap.size u21 M) := HR5.out.keep (fun b _ hlt _ => k3.block b hlt)
                  have HX3 : Hid (Fx (fun b => b = l.g) v3 (wr.alloc (.cells #[.slice (some ⟨k.g, 0, none⟩) k.n k.c] 26))) := HF5.out.trans (T := fun _ => False) (Fx.of_below k3 (fun k h1 h2 => absurd h1 (by omega))) (fun _ _ h => h.elim)
                  have HK3 : Hid (Full (wr.alloc (.cells #[.slice (some ⟨k.g, 0, none⟩) k.n k.c] 26)) k k.n (100 + m)) := HKF.out.same (k3.block _ HKF.out.lt)
                  have HL3 : Hid (Full (wr.alloc (.cells #[.slice (some ⟨k.g, 0, none⟩) k.n k.c] 26)) l l.n (100 + m)) := HLF.out.same (k3.block _ HLF.out.lt)
                  have HC3 : Hid ((wr.alloc (.cells #[.slice (some ⟨k.g, 0, none⟩) k.n k.c] 26)).cell? ⟨wr.heap.size, 0, none⟩ = some k.val) := by show _ = _; rw [World.cell?_alloc_mark]; rfl
                  have HLQ : Hid (M.length ≤ 1000000) := by have := HML.out; show _ ≤ _; omega
                  have HZ3 : Hid (v2.heap.size ≤ (wr.alloc (.cells #[.slice (some ⟨k.g, 0, none⟩) k.n k.c] 26)).heap.size) := Nat.le_trans HF4.out.size HX3.out.size
                  have HLo3 : Hid (Lo (wr.alloc (.cells #[.slice (some ⟨k.g, 0, none⟩) k.n k.c] 26)) L (M ++ [k]) v2.heap.size) := HLo4.out.next HNr2.out (by rw [HML.out]; exact HLl.out) HLG.out (by rw [HML.out]; exact HL3.out) (by rw [HML.out]; exact HK3.out) HKL.out (HKG.out.imp And.left (fun h => Nat.le_trans HF4.out.size h)) (fun b hb hne => HX3.out.block b hb hne)
                  have HF3 : Hid (Fx (fun k => w.heap.size ≤ k ∧ k < s7) v2 (wr.alloc (.cells #[.slice (some ⟨k.g, 0, none⟩) k.n k.c] 26))) := HF4.out.trans HX3.out (fun b _ e => by have e : b = l.g := e; have := HLS.out; omega)
                  clear k3 HK3 HL3 HX3 HR5 HKF HLF HF5 HKG
                  go_wp2_with (at_builtin; go_must (refine wpList_append_ls rfl _ _ rfl v2.heap.size _ M rfl HR3.out ⟨wr.heap.size, 0, none⟩ 1 k rfl HC3.out HLQ.out HZ3.out ?_; intro g' cap' w6 hn6 hg6 hx6; have HR6 : Hid (Rowl w6 v2.heap.size _ (M ++ [k])) := hn6; have HG6 : Hid ((wr.alloc (.cells #[.slice (some ⟨k.g, 0, none⟩) k.n k.c] 26)).grownBy w6 u21.ownBlock) := hg6; clear hn6 hg6 hx6))
                  have HLo6 : Hid (Lo w6 L (M ++ [k]) v2.heap.size) := HLo3.out.keep (fun b hb ht => HG6.out.block b hb (fun e => absurd (TyB.ne ht (HR3.out.ty b e.symm).2) (by decide)))
                  have HF6 : Hid (Fx (fun k => w.heap.size ≤ k ∧ k < s7) v2 w6) := HF3.out.trans (Fx.own (S := fun k => v2.heap.size ≤ k) HG6.out (fun b e => (HR3.out.ty b e).1)) (fun b hb h => by have h : v2.heap.size ≤ b := h; omega)
                  go_roundw
                  case rel => exact ⟨m + 1, M ++ [k], by go_num, by omega, (by have e1 := HML.out; show _ = _; simp; omega), HR6, HLo6, HF6⟩
                  case measure => simp [intOf]; omega
            · have hlt' : ¬ (m : Int) < (N : Int) := by omega
              have hmN : N = m := by omega
              subst hmN
              obtain ⟨a2, c2, hV, hac2, hcm2, hrd2⟩ := HRw.out.form
              rw [HML.out] at hV hac2
              have HRM : Hid (Rdl wr a2 v2.heap.size wr.heap.size M) := hrd2
              have HRL : Hid (Rdl wr a s11 v0.heap.size L) := HRr.out.keep (fun b h1 h2 => (HF4.out.block b (by have := HE.out; omega) (fun h => by have := HU11.out; omega)).trans (HFx.out.block b h2 (fun h => by have := HU11.out; omega)))
              have HFF : Hid (Fx (fun k => w.heap.size ≤ k ∧ k < s7) v0 wr) := HFx.out.trans HF4.out (fun _ _ h => h)
              clear hrd2 HRw
              subst hV
              obtain ⟨v4, hv4⟩ : ∃ v4 : World, v4 = wr := ⟨_, rfl⟩
              subst hv4
              clear hlt hmn
              simp only [maxLen] at hcm2
              go_wp2_with fail
              go_loopw [118] (fun i u => ∃ m : Nat, i = .int .i64 (m : Nat) ∧ m ≤ N ∧ Hid (Below v4.heap.size v4 u)) (fun i _ => N - (intOf i).toNat)
              case atStart => exact ⟨0, rfl, Nat.zero_le _, Below.refl _ _⟩
              case round =>
                obtain ⟨m, rfl, hmn, HB6⟩ := hrel
                by_cases hlt : m < N
                · have hlt' : (m : Int) < (N : Int) := by omega
                  obtain ⟨l, hl⟩ : ∃ l, L[m]? = some l := ⟨_, List.getElem?_eq_getElem (by rw [HLN.out]; exact hlt)⟩
                  obtain ⟨k, hk⟩ : ∃ k, M[m]? = some k := ⟨_, List.getElem?_eq_getElem (by rw [HML.out]; exact hlt)⟩
                  have HRM6 : Hid (Rdl wr a2 v2.heap.size v4.heap.size M) := HRM.out.keep (fun b _ h2 => HB6.out.block b h2)
                  obtain ⟨gb, hb, hcm⟩ := HRM6.out.at hk
                  obtain ⟨ga, ha, _⟩ := HRL.out.at hl
                  subst ha
                  subst hb
                  obtain ⟨hfk, hk1, _⟩ := HLo4.out.2 m k hk
                  have HFk : Hid (Full v4 k k.n (100 + m)) := hfk
                  have HFl : Hid (Full v4 l l.n (100 + m)) := HLo4.out.1 m l hl
                  have HCL : Hid (v4.cell? ⟨ga, m, none⟩ = some (.slice (some ⟨l.g, 0, none⟩) l.n l.c) ∧ ga < v4.heap.size) := by
                    obtain ⟨g', h1, h2⟩ := HRL.out.at hl
                    cases h1
                    refine ⟨h2, ?_⟩
                    cases hg : v4.heap[ga]? with
                    | none => simp [World.cell?, hg] at h2
                    | some o => exact (Array.getElem?_eq_some_iff.1 hg).1
                  have hln : l.n ≤ l.c ∧ l.c ≤ maxLen := by obtain ⟨_, _, h1, h2, _⟩ := HFl.out; exact ⟨h1, h2⟩
                  have hkn : k.n ≤ k.c ∧ k.c ≤ maxLen := by obtain ⟨_, _, h1, h2, _⟩ := HFk.out; exact ⟨h1, h2⟩
                  obtain ⟨hln1, hln2⟩ := hln
                  obtain ⟨hkn1, hkn2⟩ := hkn
                  simp only [maxLen] at hln2 hkn2
                  clear hl hk hfk HRM6
                  obtain ⟨v5, hv5⟩ : ∃ v5 : World, v5 = wr := ⟨_, rfl⟩
                  subst hv5
                  go_wp2_with fail
                  go_loopw [125] (fun i u => ∃ r : Nat, i = .int .i64 (r : Nat) ∧ r ≤ k.n ∧ Hid (Below v4.heap.size v4 u)) (fun i _ => k.n - (intOf i).toNat)
                  case atStart => exact ⟨0, rfl, Nat.zero_le _, HB6⟩
                  case round =>
                    obtain ⟨r, rfl, hrn, HB7⟩ := hrel
                    by_cases hrl : r < k.n
                    · have hrl' : (r : Int) < (k.n : Int) := by omega
                      have HK7 : Hid (Full wr k k.n (100 + m)) := HFk.out.same (HB7.out.block _ HFk.out.lt)
                      obtain ⟨c0, c1, c2', c3, c4, c5, c6, c7⟩ := HK7.out.reads hrl
                      have kk : Below wr.heap.size wr (wr.alloc (.cells #[.int .i64 (100 + (m : Int)), .int .u64 0, .int .u64 0, .int .u64 0, .int .u64 0, .slice none 0 0, .int .i64 0, .int .i64 0] 28)) := (Below.refl _ _).alloc (Nat.le_refl _) _
                      have HB8 : Hid (Below v4.heap.size v4 (wr.alloc (.cells #[.int .i64 (100 + (m : Int)), .int .u64 0, .int .u64 0, .int .u64 0, .int .u64 0, .slice none 0 0, .int .i64 0, .int .i64 0] 28))) := below_step HB7.out kk
                      have HL8 : Hid (Full (wr.alloc (.cells #[.int .i64 (100 + (m : Int)), .int .u64 0, .int .u64 0, .int .u64 0, .int .u64 0, .slice none 0 0, .int .i64 0, .int .i64 0] 28)) l l.n (100 + m)) := HFl.out.same (HB8.out.block _ HFl.out.lt)
                      have hcl : (wr.alloc (.cells #[.int .i64 (100 + (m : Int)), .int .u64 0, .int .u64 0, .int .u64 0, .int .u64 0, .slice none 0 0, .int .i64 0, .int .i64 0] 28)).cell? ⟨ga, m, none⟩ = some (.slice (some ⟨l.g, 0, none⟩) l.n l.c) := (World.cell?_of_block (a := ⟨ga, m, none⟩) (HB8.out.block _ HCL.out.2)).trans HCL.out.1
                      have hx0 : (wr.alloc (.cells #[.int .i64 (100 + (m : Int)), .int .u64 0, .int .u64 0, .int .u64 0, .int .u64 0, .slice none 0 0, .int .i64 0, .int .i64 0] 28)).cell? ⟨wr.heap.size, 0, none⟩ = some (.int .i64 (100 + (m : Int))) := by simp only [World.cell?, heap_alloc_new]; rfl
                      go_upto_region 42 with fail
                      obtain ⟨w7, hw7⟩ : ∃ w7, (wr.alloc (.cells #[.int .i64 (100 + (m : Int)), .int .u64 0, .int .u64 0, .int .u64 0, .int .u64 0, .slice none 0 0, .int .i64 0, .int .i64 0] 28)) = w7 := ⟨_, rfl⟩
                      obtain ⟨A7, hA7⟩ : ∃ A7, wr.heap.size = A7 := ⟨_, rfl⟩
                      rw [hw7] at HB8 HL8 hcl hx0 ⊢
                      rw [hA7] at hx0 ⊢
                      clear hw7 hA7 kk HK7 c0 c1 c2' c3 c4 c5 c6 c7
                      by_cases hrm : r < l.n
                      · have hrm' : (r : Int) < (l.n : Int) := by omega
                        obtain ⟨c0, _⟩ := HL8.out.reads hrm
                        go_wp2_with fail
                        go_roundw
                        case rel => exact ⟨r + 1, by go_num, by omega, HB8⟩
                        case measure => simp [intOf]; omega
                      · have hrm' : ¬ (r : Int) < (l.n : Int) := by omega
                        go_wp2_with fail
                        go_roundw
                        case rel => exact ⟨r + 1, by go_num, by omega, HB8⟩
                        case measure => simp [intOf]; omega
                    · have hrl' : ¬ (r : Int) < (k.n : Int) := by omega
                      go_wp2_with fail
                      go_roundw
                      case rel => exact ⟨m + 1, by go_num, by omega, HB7⟩
                      case measure => simp [intOf]; omega
                · have hlt' : ¬ (m : Int) < (N : Int) := by omega
                  have HFE : Hid (Fx (fun k => w.heap.size ≤ k ∧ k < s7) v0 wr) := HFF.out.trans (T := fun _ => False) (Fx.of_below HB6.out (fun k h1 h2 => absurd h1 (by omega))) (fun _ _ h => h.elim)
                  have HWE : Hid (Below w.heap.size w wr) := below_step2 HBr.out (HFE.out.below (b := w.heap.size) (fun _ h => h.1) HBr.out.size)
                  have HTE : Hid (NodeAt (fun b => s7 ≤ b ∧ b < s8) wr (treeOf p) t) := Htr.out.keep (fun _ h _ => h) (fun b hb hlt => HFE.out.block b hlt (fun h => by omega))
                  have HNE : Hid (NB wr A9 t) := (HFE.out.block A9 (by have := HU11.out; omega) (fun h => by have := HU11.out; omega)).trans HNr.out
                  go_wp2_with fail
                  refine (own_parse p _ (HGM.out.later HWE.out)).mono ?_
                  rintro e w8 ⟨kk, x8, a8, c8, rfl, hx8⟩
                  have HB8 : Hid (Below w.heap.size w w8) := below_step HWE.out kk
                  have HT8 : Hid (NodeAt (fun b => s7 ≤ b ∧ b < s8) w8 (treeOf p) t) := HTE.out.later kk
                  have HN8 : Hid (NB w8 A9 t) := HNE.out.later kk
                  have HX8 : Hid (NodeAt (fun b => wr.heap.size ≤ b ∧ b < w8.heap.size) w8 (treeOf p) x8) := hx8.plain
                  clear kk hx8 HWE HTE HNE
                  have kk : Below w8.heap.size w8 (w8.alloc (.cells #[.int .i64 x8.k, .int .u64 (Oct.word x8.s 0 : Nat), .int .u64 (Oct.word x8.s 1 : Nat), .int .u64 (Oct.word x8.s 2 : Nat), .int .u64 (Oct.word x8.s 3 : Nat), .slice x8.a x8.n x8.c, .int .i64 x8.mn, .int .i64 x8.mx] 28)) := (Below.refl _ _).alloc (Nat.le_refl _) _
                  have HNX : Hid (NB (w8.alloc (.cells #[.int .i64 x8.k, .int .u64 (Oct.word x8.s 0 : Nat), .int .u64 (Oct.word x8.s 1 : Nat), .int .u64 (Oct.word x8.s 2 : Nat), .int .u64 (Oct.word x8.s 3 : Nat), .slice x8.a x8.n x8.c, .int .i64 x8.mn, .int .i64 x8.mx] 28)) w8.heap.size x8) := nb_new w8 x8
                  have HB9 : Hid (Below w.heap.size w (w8.alloc (.cells #[.int .i64 x8.k, .int .u64 (Oct.word x8.s 0 : Nat), .int .u64 (Oct.word x8.s 1 : Nat), .int .u64 (Oct.word x8.s 2 : Nat), .int .u64 (Oct.word x8.s 3 : Nat), .slice x8.a x8.n x8.c, .int .i64 x8.mn, .int .i64 x8.mx] 28))) := below_step HB8.out kk
                  have HT9 : Hid (NodeAt (fun b => s7 ≤ b ∧ b < s8) (w8.alloc (.cells #[.int .i64 x8.k, .int .u64 (Oct.word x8.s 0 : Nat), .int .u64 (Oct.word x8.s 1 : Nat), .int .u64 (Oct.word x8.s 2 : Nat), .int .u64 (Oct.word x8.s 3 : Nat), .slice x8.a x8.n x8.c, .int .i64 x8.mn, .int .i64 x8.mx] 28)) (treeOf p) t) := HT8.out.later kk
                  have HN9 : Hid (NB (w8.alloc (.cells #[.int .i64 x8.k, .int .u64 (Oct.word x8.s 0 : Nat), .int .u64 (Oct.word x8.s 1 : Nat), .int .u64 (Oct.word x8.s 2 : Nat), .int .u64 (Oct.word x8.s 3 : Nat), .slice x8.a x8.n x8.c, .int .i64 x8.mn, .int .i64 x8.mx] 28)) A9 t) := HN8.out.later kk
                  have HX9 : Hid (NodeAt (fun b => wr.heap.size ≤ b ∧ b < w8.heap.size) (w8.alloc (.cells #[.int .i64 x8.k, .int .u64 (Oct.word x8.s 0 : Nat), .int .u64 (Oct.word x8.s 1 : Nat), .int .u64 (Oct.word x8.s 2 : Nat), .int .u64 (Oct.word x8.s 3 : Nat), .slice x8.a x8.n x8.c, .int .i64 x8.mn, .int .i64 x8.mx] 28)) (treeOf p) x8) := HX8.out.later kk
                  obtain ⟨w9, hw9⟩ : ∃ w9, (w8.alloc (.cells #[.int .i64 x8.k, .int .u64 (Oct.word x8.s 0 : Nat), .int .u64 (Oct.word x8.s 1 : Nat), .int .u64 (Oct.word x8.s 2 : Nat), .int .u64 (Oct.word x8.s 3 : Nat), .slice x8.a x8.n x8.c, .int .i64 x8.mn, .int .i64 x8.mx] 28)) = w9 := ⟨_, rfl⟩
                  rw [hw9] at HNX HB9 HT9 HN9 HX9
                  obtain ⟨A10, hA10⟩ : ∃ A10, w8.heap.size = A10 := ⟨_, rfl⟩
                  rw [hA10] at HNX
                  have HW9 : Hid ((w8.alloc (.cells #[.int .i64 x8.k, .int .u64 (Oct.word x8.s 0 : Nat), .int .u64 (Oct.word x8.s 1 : Nat), .int .u64 (Oct.word x8.s 2 : Nat), .int .u64 (Oct.word x8.s 3 : Nat), .slice x8.a x8.n x8.c, .int .i64 x8.mn, .int .i64 x8.mx] 28)) = w9) := hw9
                  have HA10 : Hid (w8.heap.size = A10) := hA10
                  clear hw9 hA10 kk
                  unfold Nd.val
                  go_upto_region 47 with fail
                  rw [HW9.out, HA10.out]
                  obtain ⟨d0, d1, d2, d3, d4, d5, d6, d7⟩ := HNX.out.cells
                  obtain ⟨f0, f1, f2, f3, f4, f5, f6, f7⟩ := HN9.out.cells
                  have HC : Hid (Calls Try.prog 12 #[x8.val, t.val] w9 _) := own_same HX9.out HT9.out
                  unfold Nd.val at HC
                  go_wp2_with fail
                  refine HC.out.mono ?_
                  rintro e w10 ⟨rfl, kk⟩
                  have HBZ : Hid (Below w.heap.size w w10) := below_step HB9.out kk
                  clear kk
                  go_wp2
                  go_ret
                  exact ⟨rfl, HBZ.out⟩
end Go.Proofs.Ytlcnmfgmgiijpaa
