/- EreExact, walked. -/
import Derived.Test.YtlcnmfgmgiijpaaG53
import Derived.Test.YtlcnmfgmgiijpaaG33
import Derived.Test.YtlcnmfgmgiijpaaG26
import Derived.Test.YtlcnmfgmgiijpaaG27
import Derived.Test.YtlcnmfgmgiijpaaG52
import Derived.Laws.IdiomArrays
import Derived.Lib.SmallJoins
import Derived.Deep.Slices
namespace Go.Proofs.Ytlcnmfgmgiijpaa
open Go.RowKit
attribute [local go_sem ↓] Go.wp_at_zero Go.wp_at_succ

theorem InAt.later {w w' : World} {t : Tn} {x : Nd} (h : InAt w t x) (hb : Below w.heap.size w w') : InAt w' t x := by
  induction h with
  | mk k s subs mn mx a n c vs hn hl hm hr hs ih => exact .mk k s subs mn mx a n c vs hn hl hm (hr.keep (fun _ h _ => h) (fun b _ hlt => hb.block b hlt)) (fun i t v ht hv => ih i t v ht hv)
def zeroTx : Tn := .mk 0 Oct.none [] 0 0
theorem zero_inx (w : World) : InAt w zeroTx zeroNd := .mk 0 Oct.none [] 0 0 none 0 0 [] rfl rfl (by decide) (Or.inl rfl) (fun i t v h => by simp at h)
/-- what a pattern is answered with -/
def ansOf (s : ByteArray) : Tn × Nat × Nat := match parseOf s with
  | .ok t _ => (up t, 0, 0)
  | .bad i c => (zeroTx, i, c)
  | .out => (zeroTx, 0, 0)
theorem parse_answer {w w' : World} {s : ByteArray} {e : Ending} (h : ParsePost w s e w') : Below w.heap.size w w' ∧ ∃ x : Nd, e = .returned (.tuple #[x.val, .int .i64 ((ansOf s).2.1 : Nat), .int .i64 ((ansOf s).2.2 : Nat)]) ∧ InAt w' (ansOf s).1 x := by
  unfold ParsePost at h
  obtain ⟨hb, h⟩ := h
  refine ⟨hb, ?_⟩
  unfold ansOf
  cases hc : parseOf s with
  | out => rw [hc] at h; exact h.elim
  | bad i c =>
    rw [hc] at h
    exact ⟨zeroNd, h, zero_inx _⟩
  | ok t j =>
    rw [hc] at h
    obtain ⟨x, he, hx⟩ := h
    exact ⟨x, he, hx.inAt (N := 1025) (by decide) (by decide) (parse_ok hc).2.2.2.2.1⟩
set_option maxRecDepth 4000 in
set_option maxHeartbeats 8000000 in
theorem exact_any (p : ByteArray) (tt : Tn) (tv : Nd) (w : World) (gm : GM w) (hin : InAt w tt tv) (hz : siz tt ≤ 2000000) : Calls Try.prog 7 #[.string p, tv.val] w fun e w' => e = .returned (.bool true) ∧ Below w.heap.size w w' := by
  have HIN : Hid (InAt w tt tv) := hin
  have HZ : Hid (siz tt ≤ 2000000) := hz
  have kk1 : Below w.heap.size w (w.alloc (.cells #[.int .i64 tv.k, .int .u64 (Oct.word tv.s 0 : Nat), .int .u64 (Oct.word tv.s 1 : Nat), .int .u64 (Oct.word tv.s 2 : Nat), .int .u64 (Oct.word tv.s 3 : Nat), .slice tv.a tv.n tv.c, .int .i64 tv.mn, .int .i64 tv.mx] 28)) := (Below.refl _ _).alloc (Nat.le_refl _) _
  have HNT : Hid (NB (w.alloc (.cells #[.int .i64 tv.k, .int .u64 (Oct.word tv.s 0 : Nat), .int .u64 (Oct.word tv.s 1 : Nat), .int .u64 (Oct.word tv.s 2 : Nat), .int .u64 (Oct.word tv.s 3 : Nat), .slice tv.a tv.n tv.c, .int .i64 tv.mn, .int .i64 tv.mx] 28)) w.heap.size tv) := nb_new w tv
  have HB1 : Hid (Below w.heap.size w (w.alloc (.cells #[.int .i64 tv.k, .int .u64 (Oct.word tv.s 0 : Nat), .int .u64 (Oct.word tv.s 1 : Nat), .int .u64 (Oct.word tv.s 2 : Nat), .int .u64 (Oct.word tv.s 3 : Nat), .slice tv.a tv.n tv.c, .int .i64 tv.mn, .int .i64 tv.mx] 28))) := kk1
  have HG1 : Hid (GM (w.alloc (.cells #[.int .i64 tv.k, .int .u64 (Oct.word tv.s 0 : Nat), .int .u64 (Oct.word tv.s 1 : Nat), .int .u64 (Oct.word tv.s 2 : Nat), .int .u64 (Oct.word tv.s 3 : Nat), .slice tv.a tv.n tv.c, .int .i64 tv.mn, .int .i64 tv.mx] 28))) := gm.later kk1
  obtain ⟨w1, hw1⟩ : ∃ w1, w1 = w.alloc (.cells #[.int .i64 tv.k, .int .u64 (Oct.word tv.s 0 : Nat), .int .u64 (Oct.word tv.s 1 : Nat), .int .u64 (Oct.word tv.s 2 : Nat), .int .u64 (Oct.word tv.s 3 : Nat), .slice tv.a tv.n tv.c, .int .i64 tv.mn, .int .i64 tv.mx] 28) := ⟨_, rfl⟩
  obtain ⟨A3, hA3⟩ : ∃ A3, A3 = w.heap.size := ⟨_, rfl⟩
  rw [← hw1] at HNT HB1 HG1
  rw [← hA3] at HNT
  have HW1 : Hid (w.alloc (.cells #[.int .i64 tv.k, .int .u64 (Oct.word tv.s 0 : Nat), .int .u64 (Oct.word tv.s 1 : Nat), .int .u64 (Oct.word tv.s 2 : Nat), .int .u64 (Oct.word tv.s 3 : Nat), .slice tv.a tv.n tv.c, .int .i64 tv.mn, .int .i64 tv.mx] 28) = w1) := hw1.symm
  have HAA : Hid (w.heap.size = A3) := hA3.symm
  obtain ⟨AN, hAN⟩ : ∃ AN, AN = ansOf p := ⟨_, rfl⟩
  have HANP : Hid (∀ u e u', ParsePost u p e u' → Below u.heap.size u u' ∧ ∃ x : Nd, e = .returned (.tuple #[x.val, .int .i64 (AN.2.1 : Nat), .int .i64 (AN.2.2 : Nat)]) ∧ InAt u' AN.1 x) := fun u e u' h => by rw [hAN]; exact parse_answer h
  clear hw1 hA3 kk1 hin hz gm hAN
  obtain ⟨T0, a, c⟩ := AN
  simp only at HANP
  unfold Nd.val
  go_enter Try.func7, Try.ntmps7
  go_upto_region 1 with fail
  rw [HW1.out, HAA.out]
  clear HW1 HAA
  go_wp2_with fail
  refine (known_any w1 HG1.out).mono ?_
  rintro e u1 ⟨rfl, k1⟩
  have HB2 : Hid (Below w.heap.size w u1) := below_step HB1.out k1
  have HNT2 : Hid (NB u1 A3 tv) := HNT.out.later k1
  have HG2 : Hid (GM u1) := HG1.out.later k1
  clear k1 HNT HB1 HG1
  go_wp2_with fail
  refine (Parse_any p u1 HG2.out).mono ?_
  intro e u2 hpp
  obtain ⟨k2, x, rfl, hx⟩ := HANP.out _ _ _ hpp
  have HB3 : Hid (Below w.heap.size w u2) := below_step HB2.out k2
  have HNT3 : Hid (NB u2 A3 tv) := HNT2.out.later k2
  have HX3 : Hid (InAt u2 T0 x) := hx
  clear hpp k2 hx HB2 HNT2
  have kk4 : Below u2.heap.size u2 (u2.alloc (.cells #[.int .i64 x.k, .int .u64 (Oct.word x.s 0 : Nat), .int .u64 (Oct.word x.s 1 : Nat), .int .u64 (Oct.word x.s 2 : Nat), .int .u64 (Oct.word x.s 3 : Nat), .slice x.a x.n x.c, .int .i64 x.mn, .int .i64 x.mx] 28)) := (Below.refl _ _).alloc (Nat.le_refl _) _
  have HB4 : Hid (Below w.heap.size w (u2.alloc (.cells #[.int .i64 x.k, .int .u64 (Oct.word x.s 0 : Nat), .int .u64 (Oct.word x.s 1 : Nat), .int .u64 (Oct.word x.s 2 : Nat), .int .u64 (Oct.word x.s 3 : Nat), .slice x.a x.n x.c, .int .i64 x.mn, .int .i64 x.mx] 28))) := below_step HB3.out kk4
  have HNT4 : Hid (NB (u2.alloc (.cells #[.int .i64 x.k, .int .u64 (Oct.word x.s 0 : Nat), .int .u64 (Oct.word x.s 1 : Nat), .int .u64 (Oct.word x.s 2 : Nat), .int .u64 (Oct.word x.s 3 : Nat), .slice x.a x.n x.c, .int .i64 x.mn, .int .i64 x.mx] 28)) A3 tv) := HNT3.out.later kk4
  have HNX4 : Hid (NB (u2.alloc (.cells #[.int .i64 x.k, .int .u64 (Oct.word x.s 0 : Nat), .int .u64 (Oct.word x.s 1 : Nat), .int .u64 (Oct.word x.s 2 : Nat), .int .u64 (Oct.word x.s 3 : Nat), .slice x.a x.n x.c, .int .i64 x.mn, .int .i64 x.mx] 28)) u2.heap.size x) := nb_new u2 x
  have HX4 : Hid (InAt (u2.alloc (.cells #[.int .i64 x.k, .int .u64 (Oct.word x.s 0 : Nat), .int .u64 (Oct.word x.s 1 : Nat), .int .u64 (Oct.word x.s 2 : Nat), .int .u64 (Oct.word x.s 3 : Nat), .slice x.a x.n x.c, .int .i64 x.mn, .int .i64 x.mx] 28)) T0 x) := HX3.out.later kk4
  clear kk4
  unfold Nd.val
  go_upto_region 4 with fail
  obtain ⟨u3, hu3⟩ : ∃ u3, u3 = u2.alloc (.cells #[.int .i64 x.k, .int .u64 (Oct.word x.s 0 : Nat), .int .u64 (Oct.word x.s 1 : Nat), .int .u64 (Oct.word x.s 2 : Nat), .int .u64 (Oct.word x.s 3 : Nat), .slice x.a x.n x.c, .int .i64 x.mn, .int .i64 x.mx] 28) := ⟨_, rfl⟩
  obtain ⟨A5, hA5⟩ : ∃ A5, A5 = u2.heap.size := ⟨_, rfl⟩
  rw [← hu3] at HB4 HNT4 HNX4 HX4 ⊢
  rw [← hA5] at HNX4 ⊢
  clear hu3 hA5 HB3 HNT3 HX3
  go_wp2_with fail
  refine (rParse_any p u3).mono ?_
  intro e u4 hpp
  obtain ⟨k5, y, rfl, hy⟩ := HANP.out _ _ _ hpp
  have kk6 : Below u4.heap.size u4 (u4.alloc (.cells #[.int .i64 y.k, .int .u64 (Oct.word y.s 0 : Nat), .int .u64 (Oct.word y.s 1 : Nat), .int .u64 (Oct.word y.s 2 : Nat), .int .u64 (Oct.word y.s 3 : Nat), .slice y.a y.n y.c, .int .i64 y.mn, .int .i64 y.mx] 28)) := (Below.refl _ _).alloc (Nat.le_refl _) _
  have HB6 : Hid (Below w.heap.size w (u4.alloc (.cells #[.int .i64 y.k, .int .u64 (Oct.word y.s 0 : Nat), .int .u64 (Oct.word y.s 1 : Nat), .int .u64 (Oct.word y.s 2 : Nat), .int .u64 (Oct.word y.s 3 : Nat), .slice y.a y.n y.c, .int .i64 y.mn, .int .i64 y.mx] 28))) := below_step (below_step HB4.out k5) kk6
  have HNT6 : Hid (NB (u4.alloc (.cells #[.int .i64 y.k, .int .u64 (Oct.word y.s 0 : Nat), .int .u64 (Oct.word y.s 1 : Nat), .int .u64 (Oct.word y.s 2 : Nat), .int .u64 (Oct.word y.s 3 : Nat), .slice y.a y.n y.c, .int .i64 y.mn, .int .i64 y.mx] 28)) A3 tv) := (HNT4.out.later k5).later kk6
  have HNX6 : Hid (NB (u4.alloc (.cells #[.int .i64 y.k, .int .u64 (Oct.word y.s 0 : Nat), .int .u64 (Oct.word y.s 1 : Nat), .int .u64 (Oct.word y.s 2 : Nat), .int .u64 (Oct.word y.s 3 : Nat), .slice y.a y.n y.c, .int .i64 y.mn, .int .i64 y.mx] 28)) A5 x) := (HNX4.out.later k5).later kk6
  have HNY6 : Hid (NB (u4.alloc (.cells #[.int .i64 y.k, .int .u64 (Oct.word y.s 0 : Nat), .int .u64 (Oct.word y.s 1 : Nat), .int .u64 (Oct.word y.s 2 : Nat), .int .u64 (Oct.word y.s 3 : Nat), .slice y.a y.n y.c, .int .i64 y.mn, .int .i64 y.mx] 28)) u4.heap.size y) := nb_new u4 y
  have HX6 : Hid (InAt (u4.alloc (.cells #[.int .i64 y.k, .int .u64 (Oct.word y.s 0 : Nat), .int .u64 (Oct.word y.s 1 : Nat), .int .u64 (Oct.word y.s 2 : Nat), .int .u64 (Oct.word y.s 3 : Nat), .slice y.a y.n y.c, .int .i64 y.mn, .int .i64 y.mx] 28)) T0 x) := (HX4.out.later k5).later kk6
  have HY6 : Hid (InAt (u4.alloc (.cells #[.int .i64 y.k, .int .u64 (Oct.word y.s 0 : Nat), .int .u64 (Oct.word y.s 1 : Nat), .int .u64 (Oct.word y.s 2 : Nat), .int .u64 (Oct.word y.s 3 : Nat), .slice y.a y.n y.c, .int .i64 y.mn, .int .i64 y.mx] 28)) T0 y) := hy.later kk6
  clear kk6 hpp k5 hy HANP
  unfold Nd.val
  go_upto_region 5 with fail
  obtain ⟨u5, hu5⟩ : ∃ u5, u5 = u4.alloc (.cells #[.int .i64 y.k, .int .u64 (Oct.word y.s 0 : Nat), .int .u64 (Oct.word y.s 1 : Nat), .int .u64 (Oct.word y.s 2 : Nat), .int .u64 (Oct.word y.s 3 : Nat), .slice y.a y.n y.c, .int .i64 y.mn, .int .i64 y.mx] 28) := ⟨_, rfl⟩
  obtain ⟨A8, hA8⟩ : ∃ A8, A8 = u4.heap.size := ⟨_, rfl⟩
  rw [← hu5] at HB6 HNT6 HNX6 HNY6 HX6 HY6 ⊢
  rw [← hA8] at HNY6 ⊢
  clear hu5 hA8 HB4 HNT4 HNX4 HX4
  have HT6 : Hid (InAt u5 tt tv) := HIN.out.later HB6.out
  have hne : Nonempty (Later u5) := ⟨⟨u5, Below.refl _ _⟩⟩
  have HSAME : Hid (∀ u : Later u5, Calls Try.prog 12 #[x.val, y.val] u.at_ fun e w' => e = .returned (.bool true) ∧ Below u.at_.heap.size u.at_ w') := fun u => (same_any HX6.out _ _ HY6.out u.at_ u.below).mono (fun _ _ h => ⟨by rw [h.1, sameT_refl], h.2⟩)
  have HNODES : Hid (∀ u : Later u5, Calls Try.prog 20 #[tv.val] u.at_ fun e w' => e = .returned (.int .i64 (nds tt : Nat)) ∧ Below u.at_.heap.size u.at_ w') := fun u => nodes_any HT6.out HZ.out u.at_ u.below
  have HPT : Hid (∀ u : Later u5, Calls Try.prog 14 #[tv.val] u.at_ fun e w' => e = .returned (.int .i64 (placesOf tt : Nat)) ∧ Below u.at_.heap.size u.at_ w') := fun u => Places_any u.at_ (HT6.out.later u.below)
  have HQT : Hid (∀ u : Later u5, Calls Try.prog 21 #[tv.val] u.at_ fun e w' => e = .returned (.int .i64 (placesOf tt : Nat)) ∧ Below u.at_.heap.size u.at_ w') := fun u => rPlaces_any u.at_ (HT6.out.later u.below)
  have HPX : Hid (∀ u : Later u5, Calls Try.prog 14 #[x.val] u.at_ fun e w' => e = .returned (.int .i64 (placesOf T0 : Nat)) ∧ Below u.at_.heap.size u.at_ w') := fun u => Places_any u.at_ (HX6.out.later u.below)
  have HQY : Hid (∀ u : Later u5, Calls Try.prog 21 #[y.val] u.at_ fun e w' => e = .returned (.int .i64 (placesOf T0 : Nat)) ∧ Below u.at_.heap.size u.at_ w') := fun u => rPlaces_any u.at_ (HY6.out.later u.below)
  unfold Nd.val at HSAME HNODES HPT HQT HPX HQY
  obtain ⟨Nn, hNn⟩ : ∃ Nn, Nn = nds tt := ⟨_, rfl⟩
  obtain ⟨Pt, hPt⟩ : ∃ Pt, Pt = placesOf tt := ⟨_, rfl⟩
  obtain ⟨P0, hP0⟩ : ∃ P0, P0 = placesOf T0 := ⟨_, rfl⟩
  rw [← hNn] at HNODES
  rw [← hPt] at HPT HQT
  rw [← hP0] at HPX HQY
  clear hNn hPt hP0 HT6 HX6 HY6 HIN HZ
  have ct0 : ∀ u : Later u5, u.at_.cell? ⟨A3, 0, none⟩ = some (.int .i64 tv.k) := fun u => (HNT6.out.later u.below).cells.1
  have ct1 : ∀ u : Later u5, u.at_.cell? ⟨A3, 1, none⟩ = some (.int .u64 (Oct.word tv.s 0 : Nat)) := fun u => (HNT6.out.later u.below).cells.2.1
  have ct2 : ∀ u : Later u5, u.at_.cell? ⟨A3, 2, none⟩ = some (.int .u64 (Oct.word tv.s 1 : Nat)) := fun u => (HNT6.out.later u.below).cells.2.2.1
  have ct3 : ∀ u : Later u5, u.at_.cell? ⟨A3, 3, none⟩ = some (.int .u64 (Oct.word tv.s 2 : Nat)) := fun u => (HNT6.out.later u.below).cells.2.2.2.1
  have ct4 : ∀ u : Later u5, u.at_.cell? ⟨A3, 4, none⟩ = some (.int .u64 (Oct.word tv.s 3 : Nat)) := fun u => (HNT6.out.later u.below).cells.2.2.2.2.1
  have ct5 : ∀ u : Later u5, u.at_.cell? ⟨A3, 5, none⟩ = some (.slice tv.a tv.n tv.c) := fun u => (HNT6.out.later u.below).cells.2.2.2.2.2.1
  have ct6 : ∀ u : Later u5, u.at_.cell? ⟨A3, 6, none⟩ = some (.int .i64 tv.mn) := fun u => (HNT6.out.later u.below).cells.2.2.2.2.2.2.1
  have ct7 : ∀ u : Later u5, u.at_.cell? ⟨A3, 7, none⟩ = some (.int .i64 tv.mx) := fun u => (HNT6.out.later u.below).cells.2.2.2.2.2.2.2
  have cx0 : ∀ u : Later u5, u.at_.cell? ⟨A5, 0, none⟩ = some (.int .i64 x.k) := fun u => (HNX6.out.later u.below).cells.1
  have cx1 : ∀ u : Later u5, u.at_.cell? ⟨A5, 1, none⟩ = some (.int .u64 (Oct.word x.s 0 : Nat)) := fun u => (HNX6.out.later u.below).cells.2.1
  have cx2 : ∀ u : Later u5, u.at_.cell? ⟨A5, 2, none⟩ = some (.int .u64 (Oct.word x.s 1 : Nat)) := fun u => (HNX6.out.later u.below).cells.2.2.1
  have cx3 : ∀ u : Later u5, u.at_.cell? ⟨A5, 3, none⟩ = some (.int .u64 (Oct.word x.s 2 : Nat)) := fun u => (HNX6.out.later u.below).cells.2.2.2.1
  have cx4 : ∀ u : Later u5, u.at_.cell? ⟨A5, 4, none⟩ = some (.int .u64 (Oct.word x.s 3 : Nat)) := fun u => (HNX6.out.later u.below).cells.2.2.2.2.1
  have cx5 : ∀ u : Later u5, u.at_.cell? ⟨A5, 5, none⟩ = some (.slice x.a x.n x.c) := fun u => (HNX6.out.later u.below).cells.2.2.2.2.2.1
  have cx6 : ∀ u : Later u5, u.at_.cell? ⟨A5, 6, none⟩ = some (.int .i64 x.mn) := fun u => (HNX6.out.later u.below).cells.2.2.2.2.2.2.1
  have cx7 : ∀ u : Later u5, u.at_.cell? ⟨A5, 7, none⟩ = some (.int .i64 x.mx) := fun u => (HNX6.out.later u.below).cells.2.2.2.2.2.2.2
  have cy0 : ∀ u : Later u5, u.at_.cell? ⟨A8, 0, none⟩ = some (.int .i64 y.k) := fun u => (HNY6.out.later u.below).cells.1
  have cy1 : ∀ u : Later u5, u.at_.cell? ⟨A8, 1, none⟩ = some (.int .u64 (Oct.word y.s 0 : Nat)) := fun u => (HNY6.out.later u.below).cells.2.1
  have cy2 : ∀ u : Later u5, u.at_.cell? ⟨A8, 2, none⟩ = some (.int .u64 (Oct.word y.s 1 : Nat)) := fun u => (HNY6.out.later u.below).cells.2.2.1
  have cy3 : ∀ u : Later u5, u.at_.cell? ⟨A8, 3, none⟩ = some (.int .u64 (Oct.word y.s 2 : Nat)) := fun u => (HNY6.out.later u.below).cells.2.2.2.1
  have cy4 : ∀ u : Later u5, u.at_.cell? ⟨A8, 4, none⟩ = some (.int .u64 (Oct.word y.s 3 : Nat)) := fun u => (HNY6.out.later u.below).cells.2.2.2.2.1
  have cy5 : ∀ u : Later u5, u.at_.cell? ⟨A8, 5, none⟩ = some (.slice y.a y.n y.c) := fun u => (HNY6.out.later u.below).cells.2.2.2.2.2.1
  have cy6 : ∀ u : Later u5, u.at_.cell? ⟨A8, 6, none⟩ = some (.int .i64 y.mn) := fun u => (HNY6.out.later u.below).cells.2.2.2.2.2.2.1
  have cy7 : ∀ u : Later u5, u.at_.cell? ⟨A8, 7, none⟩ = some (.int .i64 y.mx) := fun u => (HNY6.out.later u.below).cells.2.2.2.2.2.2.2
  by_cases hN : 3000 < Nn
  · have g1 : (3000 : Int) < (Nn : Int) := by omega
    refine wp_region_later (by kernel_rfl) (by kernel_rfl) ?_
    repeat (first
      | go_big_quiet_step ((first | (go_at_call 12; exact calls_later (HSAME.out _)) | (go_at_call 20; exact calls_later (HNODES.out _)) | (go_at_call_of 14 (Value.int IntKind.i64 tv.k); exact calls_later (HPT.out _)) | (go_at_call_of 21 (Value.int IntKind.i64 tv.k); exact calls_later (HQT.out _)) | (go_at_call 14; exact calls_later (HPX.out _)) | (go_at_call 21; exact calls_later (HQY.out _))))
      | quiet_step ((first | (go_at_call 12; exact calls_later (HSAME.out _)) | (go_at_call 20; exact calls_later (HNODES.out _)) | (go_at_call_of 14 (Value.int IntKind.i64 tv.k); exact calls_later (HPT.out _)) | (go_at_call_of 21 (Value.int IntKind.i64 tv.k); exact calls_later (HQT.out _)) | (go_at_call 14; exact calls_later (HPX.out _)) | (go_at_call 21; exact calls_later (HQY.out _)))))
    refine wpQuiet_nil ?_
    intro _ hw'
    obtain ⟨u, hw''⟩ := hw'
    subst hw''
    go_wp2
    go_ret
    exact ⟨rfl, below_step HB6.out u.below⟩
  · have g1 : ¬ (3000 : Int) < (Nn : Int) := by omega
    refine wp_region_later (by kernel_rfl) (by kernel_rfl) ?_
    repeat (first
      | go_big_quiet_step ((first | (go_at_call 12; exact calls_later (HSAME.out _)) | (go_at_call 20; exact calls_later (HNODES.out _)) | (go_at_call_of 14 (Value.int IntKind.i64 tv.k); exact calls_later (HPT.out _)) | (go_at_call_of 21 (Value.int IntKind.i64 tv.k); exact calls_later (HQT.out _)) | (go_at_call 14; exact calls_later (HPX.out _)) | (go_at_call 21; exact calls_later (HQY.out _))))
      | quiet_step ((first | (go_at_call 12; exact calls_later (HSAME.out _)) | (go_at_call 20; exact calls_later (HNODES.out _)) | (go_at_call_of 14 (Value.int IntKind.i64 tv.k); exact calls_later (HPT.out _)) | (go_at_call_of 21 (Value.int IntKind.i64 tv.k); exact calls_later (HQT.out _)) | (go_at_call 14; exact calls_later (HPX.out _)) | (go_at_call 21; exact calls_later (HQY.out _)))))
    refine wpQuiet_nil ?_
    intro _ hw'
    obtain ⟨u, hw''⟩ := hw'
    subst hw''
    go_wp2
    go_ret
    exact ⟨rfl, below_step HB6.out u.below⟩
end Go.Proofs.Ytlcnmfgmgiijpaa

/- From the row's own conditions to what the walks ask: a node that came in, with all that lies below it. -/
namespace Go.Proofs.Ytlcnmfgmgiijpaa
open Go.ChangeShapes Go.WideShapes Go.ChangeAt Go.RowKit Go.Deep

theorem cells25 : Try.prog.cellsOf 25 = 4 := by kernel_rfl
theorem cells23 : Try.prog.cellsOf 23 = 1 := by kernel_rfl
theorem cells3 : Try.prog.cellsOf 3 = 1 := by kernel_rfl
theorem cells26 : Try.prog.cellsOf 26 = 1 := by kernel_rfl
theorem cells28 : Try.prog.cellsOf 28 = 8 := by kernel_rfl
theorem bounds_u64 {n : Int} (h : (Lit.int .u64 n).wf = true) : 0 ≤ n ∧ n < 18446744073709551616 := by
  have h : 0 ≤ n ∧ n ≤ 18446744073709551615 := by simpa [Lit.wf, IntKind.min, IntKind.max, IntKind.signed, IntKind.bits] using h
  omega
theorem bulk_one {H : Type} (d : DataW H) : 1 ≤ Rows.uptoBulk d := by
  cases d with
  | lit l => cases l <;> simp [Rows.uptoBulk]
  | nil => simp [Rows.uptoBulk]
  | ptr d => simp [Rows.uptoBulk]
  | slice elems spare => simp [Rows.uptoBulk]
  | agg parts => simp [Rows.uptoBulk]
  | iface t d => simp [Rows.uptoBulk]
  | map entries => simp [Rows.uptoBulk]
  | held h => simp [Rows.uptoBulk]
theorem trod_struct5 {H : Type} {enc : TypeId × Value → H} {P : Program} {w : World} {base : Nat} {spare : Nat → Bool} {held : Bool} {t : TypeId} {f0 f1 f2 f3 f4 : Field} {fuel : Nat} {cs : List Value} {x : DataW H × List MemPlace} (ht : P.underlying t = some (.struct #[f0, f1, f2, f3, f4])) (h : DataW.trod enc P w base spare held fuel t cs = some x) :
    ∃ y0 y1 y2 y3 y4 n, x.1 = .agg [y0.1, y1.1, y2.1, y3.1, y4.1] ∧ cs.length = P.cellsOf t ∧ DataW.trod enc P w base spare held n f0.type ((cs.drop f0.offset).take (P.cellsOf f0.type)) = some y0 ∧
      DataW.trod enc P w base spare held n f1.type ((cs.drop f1.offset).take (P.cellsOf f1.type)) = some y1 ∧ DataW.trod enc P w base spare held n f2.type ((cs.drop f2.offset).take (P.cellsOf f2.type)) = some y2 ∧
      DataW.trod enc P w base spare held n f3.type ((cs.drop f3.offset).take (P.cellsOf f3.type)) = some y3 ∧ DataW.trod enc P w base spare held n f4.type ((cs.drop f4.offset).take (P.cellsOf f4.type)) = some y4 := by
  obtain ⟨xs, n, _, rfl, hl, hlen, hf⟩ := DataW.trod_struct ht h
  match xs, hlen with
  | [y0, y1, y2, y3, y4], _ => exact ⟨y0, y1, y2, y3, y4, n, by simp, hl, by simpa using hf 0 f0 rfl, by simpa using hf 1 f1 rfl, by simpa using hf 2 f2 rfl, by simpa using hf 3 f3 rfl, by simpa using hf 4 f4 rfl⟩
theorem eight {α : Type} {l : List α} (h : l.length = 8) : ∃ a b c d e f g i, l = [a, b, c, d, e, f, g, i] := by
  match l, h with
  | [a, b, c, d, e, f, g, i], _ => exact ⟨a, b, c, d, e, f, g, i, rfl⟩
theorem read_set {H : Type} {enc : TypeId × Value → H} {W : World} {n : Nat} {v0 v1 v2 v3 : Value} {x : DataW H × List MemPlace} {spare : Nat → Bool}
    (h : DataW.trod enc Try.prog W 0 spare true n 25 [v0, v1, v2, v3] = some x) :
    ∃ s : Oct.S, v0 = .int .u64 (Oct.word s 0 : Nat) ∧ v1 = .int .u64 (Oct.word s 1 : Nat) ∧ v2 = .int .u64 (Oct.word s 2 : Nat) ∧ v3 = .int .u64 (Oct.word s 3 : Nat) := by
  obtain ⟨y0, y1, y2, y3, m, _, h0, h1, h2, h3⟩ := trod_array4 Try.underlying25 cells23 h
  obtain ⟨x0, e0, _, w0⟩ := DataW.trod_int Try.underlying23 h0
  obtain ⟨x1, e1, _, w1⟩ := DataW.trod_int Try.underlying23 h1
  obtain ⟨x2, e2, _, w2⟩ := DataW.trod_int Try.underlying23 h2
  obtain ⟨x3, e3, _, w3⟩ := DataW.trod_int Try.underlying23 h3
  simp only [List.cons.injEq, and_true] at e0 e1 e2 e3
  obtain ⟨a0, b0⟩ := bounds_u64 w0
  obtain ⟨a1, b1⟩ := bounds_u64 w1
  obtain ⟨a2, b2⟩ := bounds_u64 w2
  obtain ⟨a3, b3⟩ := bounds_u64 w3
  obtain ⟨X0, rfl⟩ := Int.eq_ofNat_of_zero_le a0
  obtain ⟨X1, rfl⟩ := Int.eq_ofNat_of_zero_le a1
  obtain ⟨X2, rfl⟩ := Int.eq_ofNat_of_zero_le a2
  obtain ⟨X3, rfl⟩ := Int.eq_ofNat_of_zero_le a3
  refine ⟨Oct.ofWords X0 X1 X2 X3, ?_, ?_, ?_, ?_⟩
  · rw [← Oct.ofWords0 X0 X1 X2 X3 (by omega)]; exact e0
  · rw [← Oct.ofWords1 X0 X1 X2 X3 (by omega)]; exact e1
  · rw [← Oct.ofWords2 X0 X1 X2 X3 (by omega)]; exact e2
  · rw [← Oct.ofWords3 X0 X1 X2 X3 (by omega)]; exact e3
theorem siz_one (t : Tn) : 1 ≤ siz t := by
  cases t with
  | mk k s subs mn mx => rw [siz]; omega
theorem bulk_nodes {H : Type} (l : List Nat) (Tf : Nat → Tn) (D : Nat → DataW H) (h : ∀ r ∈ l, 6 * siz (Tf r) ≤ Rows.uptoBulk (D r)) : 6 * sizs (l.map Tf) ≤ Rows.uptoBulkAll (l.map D) ∧ l.length ≤ sizs (l.map Tf) := by
  induction l with
  | nil => simp [sizs, Rows.uptoBulkAll]
  | cons x r ih =>
    have h1 := h x (by simp)
    have h2 := ih (fun y hy => h y (by simp [hy]))
    have h3 := siz_one (Tf x)
    simp only [List.map_cons, Rows.uptoBulkAll, sizs, List.length_cons]
    omega
theorem bulk_in {H : Type} (l : List Nat) (D : Nat → DataW H) {r : Nat} (h : r ∈ l) : Rows.uptoBulk (D r) ≤ Rows.uptoBulkAll (l.map D) := by
  induction l with
  | nil => cases h
  | cons x l ih =>
    simp only [List.map_cons, Rows.uptoBulkAll]
    rcases List.mem_cons.1 h with rfl | h
    · omega
    · have := ih h; omega
/-- nodes one behind the other, cell by cell -/
theorem row_of {W : World} {b off len : Nat} {Xf : Nat → Nd} (h : ∀ i, i < len → ∀ m v, (Xf i).cells[m]? = some v → W.cell? ⟨b, off + i * 8 + m, none⟩ = some v) : RowAt (fun _ => True) W (some ⟨b, off, none⟩) ((List.range len).map Xf) := by
  refine Or.inr ⟨b, off, rfl, trivial, fun j v hj => ?_⟩
  have hjl := (List.getElem?_eq_some_iff.1 hj).1
  rw [flatN_length] at hjl
  simp only [List.length_map, List.length_range] at hjl
  have hi : j / 8 < len := by omega
  have hm : j % 8 < 8 := by omega
  have hx : ((List.range len).map Xf)[j / 8]? = some (Xf (j / 8)) := by simp [hi]
  have e := flatN_at hx hm
  rw [show 8 * (j / 8) + j % 8 = j by omega] at e
  rw [e] at hj
  have := h (j / 8) hi (j % 8) v hj
  rw [show off + j / 8 * 8 + j % 8 = off + j by omega] at this
  exact this
theorem open_node {H : Type} {enc : TypeId × Value → H} {W : World} : ∀ (b fuel : Nat) (cs : List Value) (d : DataW H) (p : List MemPlace), DataW.trod enc Try.prog W 0 (fun _ => true) true fuel 28 cs = some (d, p) → Rows.uptoBulk d ≤ b → b ≤ 1048576 → ∃ (x : Nd) (t : Tn), cs = x.cells ∧ InAt W t x ∧ 6 * siz t ≤ Rows.uptoBulk d := by
  intro b
  induction b with
  | zero => intro fuel cs d p _ hb; have := bulk_one d; omega
  | succ b ih =>
    intro fuel cs d p h hb hbb
    obtain ⟨y0, y1, y2, y3, y4, n, hd, hlen, h0, h1, h2, h3, h4⟩ := trod_struct5 Try.underlying28 h
    rw [cells28] at hlen
    obtain ⟨v0, v1, v2, v3, v4, v5, v6, v7, rfl⟩ := eight hlen
    simp only [cells3, cells25, cells26, List.drop_zero, List.drop_succ_cons, List.take_succ_cons, List.take_zero] at h0 h1 h2 h3 h4
    obtain ⟨k, e0, hy0, _⟩ := DataW.trod_int Try.underlying3 h0
    obtain ⟨mn, e3, hy3, _⟩ := DataW.trod_int Try.underlying3 h3
    obtain ⟨mx, e4, hy4, _⟩ := DataW.trod_int Try.underlying3 h4
    simp only [List.cons.injEq, and_true] at e0 e3 e4
    obtain ⟨s, rfl, rfl, rfl, rfl⟩ := read_set h1
    subst e0 e3 e4
    simp only at hd
    have hbd : Rows.uptoBulk d = 1 + (Rows.uptoBulk y1.1 + (Rows.uptoBulk y2.1 + (1 + (1 + 0)))) + 1 := by rw [hd, hy0, hy3, hy4]; simp only [Rows.uptoBulk, Rows.uptoBulkAll]
    have hb1 := bulk_one y1.1
    rcases open_slice Try.underlying26 h2 with ⟨hcs, hx⟩ | ⟨a, len, cap, m, n', D, Pl, hcs, _, hl, hm, hmm, hx, hrow⟩
    · simp only [List.cons.injEq, and_true] at hcs
      subst hcs
      exact ⟨⟨k, s, none, 0, 0, mn, mx⟩, .mk k s [] mn mx, rfl, .mk k s [] mn mx none 0 0 [] rfl rfl (by decide) (Or.inl rfl) (fun i t v h => by simp at h), by rw [siz, sizs, hbd]; have := bulk_one y2.1; omega⟩
    · simp only [List.cons.injEq, and_true] at hcs
      subst hcs
      have hmc : m = cap := by simpa using hmm
      have hy2 : y2.1 = .slice ((List.range len).map D) ((List.range (m - len)).map fun j => D (len + j)) := by rw [hx]
      have hb2 : Rows.uptoBulk y2.1 = Rows.uptoBulkAll ((List.range len).map D) + Rows.uptoBulkAll ((List.range (m - len)).map fun j => D (len + j)) + 1 := by rw [hy2]; simp only [Rows.uptoBulk]
      haveI : Inhabited (Nd × Tn) := ⟨(zeroNd, .mk 0 Oct.none [] 0 0)⟩
      obtain ⟨F, hF⟩ := choose_lt (α := Nd × Tn) (n := len) (p := fun i q => (∀ mm v, q.1.cells[mm]? = some v → W.cell? (a.add (i * 8 + mm)) = some v) ∧ InAt W q.2 q.1 ∧ 6 * siz q.2 ≤ Rows.uptoBulk (D i)) (fun i hi => by
        obtain ⟨cs', g1, g2⟩ := hrow i (by omega)
        rw [cells28] at g1
        have hbi := bulk_in (List.range len) D (List.mem_range.2 hi)
        obtain ⟨x, t, hcx, hin, hsz⟩ := ih n' cs' (D i) (Pl i) g2 (by omega) (by omega)
        obtain ⟨_, hlen', hcell⟩ := World.cells?_some g1
        refine ⟨(x, t), fun mm v hv => ?_, hin, hsz⟩
        have hmm : mm < 8 := by have := (List.getElem?_eq_some_iff.1 hv).1; simpa [Nd.cells] using this
        have c := hcell mm hmm
        rw [add_add, hcx] at c
        rw [c]
        exact hv)
      have hbn := bulk_nodes (List.range len) (fun i => (F i).2) D (fun r hr => (hF r (List.mem_range.1 hr)).2.2)
      rw [List.length_range] at hbn
      refine ⟨⟨k, s, some a, len, cap, mn, mx⟩, .mk k s ((List.range len).map fun i => (F i).2) mn mx, rfl, .mk k s _ mn mx (some a) len cap ((List.range len).map fun i => (F i).1) (by simp) (by simp) (by omega) ?_ ?_, by rw [siz, hbd]; omega⟩
      · by_cases h0 : 0 < len
        · obtain ⟨bb, off, spot⟩ := a
          have hspot : spot = none := by
            have h1 := (hF 0 h0).1 0 _ rfl
            simpa [Addr.add] using World.cell?_spot h1
          subst hspot
          refine row_of (fun i hi mm v hv => ?_)
          have := (hF i hi).1 mm v hv
          rw [Go.WideShapes.add_plain] at this
          rw [Nat.add_assoc]
          exact this
        · exact Or.inl (by have : len = 0 := by omega
                           simp [this])
      · intro i t v ht hv
        have hi : i < len := by
          have := (List.getElem?_eq_some_iff.1 ht).1
          simpa using this
        simp [hi] at ht hv
        subst ht hv
        exact (hF i hi).2.1
end Go.Proofs.Ytlcnmfgmgiijpaa
