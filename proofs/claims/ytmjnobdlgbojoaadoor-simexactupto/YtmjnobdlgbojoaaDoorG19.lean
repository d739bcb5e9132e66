/- heronlaw08's copied, walked. -/
import Derived.Test.YtmjnobdlgbojoaaDoorG18
namespace Go.Proofs.YtmjnobdlgbojoaaDoor
open Go.RowKit
attribute [local go_sem ↓] Go.wp_at_zero Go.wp_at_succ

/-- A COPY THAT IS THE CALL's OWN. -/
def CopO (base : Nat) (w : World) (M : Ma) (eb ec rb rc : Nat) : Prop := RowE w base (.slice (some ⟨eb, 0, none⟩) (M.es.length + 1) ec) (M.es ++ [markE]) ∧ RowU w base (.slice (some ⟨rb, 0, none⟩) (M.rs.length + 1) rc) (M.rs ++ [77])
set_option maxRecDepth 8000 in
set_option maxHeartbeats 16000000 in
theorem copied_any {M : Ma} {x : Nf} (w : World) (hx : MaAt (fun _ => True) w M x) (he : M.es.length ≤ 1048576) (hrr : M.rs.length ≤ 1048576) : Calls Tryd.prog 13 #[x.val] w fun e w' => ∃ eb ec rb rc, e = .returned (Nf.val ⟨x.S, some ⟨eb, 0, none⟩, x.en, ec, some ⟨rb, 0, none⟩, x.rn, rc⟩) ∧ CopO w.heap.size w' M eb ec rb rc ∧ Below w.heap.size w w' := by
  have kk : Below w.heap.size w ((w.alloc (.cells #[.int .i64 x.S, .slice x.ea x.en x.ec, .slice x.ra x.rn x.rc] 25)).alloc (.cells #[.int .i64 0, .slice none 0 0, .slice none 0 0] 25)) := ((Below.refl _ _).alloc (Nat.le_refl _) _).alloc (by simp) _
  have h1 : NFB ((w.alloc (.cells #[.int .i64 x.S, .slice x.ea x.en x.ec, .slice x.ra x.rn x.rc] 25)).alloc (.cells #[.int .i64 0, .slice none 0 0, .slice none 0 0] 25)) w.heap.size x := (nfb_new w x).later ((Below.refl _ _).alloc (Nat.le_refl _) _)
  have h2 : NFB ((w.alloc (.cells #[.int .i64 x.S, .slice x.ea x.en x.ec, .slice x.ra x.rn x.rc] 25)).alloc (.cells #[.int .i64 0, .slice none 0 0, .slice none 0 0] 25)) (w.heap.size + 1) ⟨0, none, 0, 0, none, 0, 0⟩ := by
    have h1 := nfb_new (w.alloc (.cells #[.int .i64 x.S, .slice x.ea x.en x.ec, .slice x.ra x.rn x.rc] 25)) ⟨0, none, 0, 0, none, 0, 0⟩
    rw [show (w.alloc (.cells #[.int .i64 x.S, .slice x.ea x.en x.ec, .slice x.ra x.rn x.rc] 25)).heap.size = w.heap.size + 1 by simp] at h1
    exact h1
  have hsz : ((w.alloc (.cells #[.int .i64 x.S, .slice x.ea x.en x.ec, .slice x.ra x.rn x.rc] 25)).alloc (.cells #[.int .i64 0, .slice none 0 0, .slice none 0 0] 25)).heap.size = w.heap.size + 2 := by simp
  obtain ⟨w2, hw2⟩ : ∃ w2, ((w.alloc (.cells #[.int .i64 x.S, .slice x.ea x.en x.ec, .slice x.ra x.rn x.rc] 25)).alloc (.cells #[.int .i64 0, .slice none 0 0, .slice none 0 0] 25)) = w2 := ⟨_, rfl⟩
  rw [hw2] at h1 h2 kk hsz
  obtain ⟨A, hA⟩ : ∃ A, w.heap.size = A := ⟨_, rfl⟩
  obtain ⟨R, hR⟩ : ∃ R, w.heap.size + 1 = R := ⟨_, rfl⟩
  have HAR : Hid (NFB w2 A x ∧ NFB w2 R ⟨0, none, 0, 0, none, 0, 0⟩ ∧ Below w.heap.size w w2 ∧ w2.heap.size = w.heap.size + 2) := ⟨by rw [← hA]; exact h1, by rw [← hR]; exact h2, kk, hsz⟩
  have HW2 : Hid (((w.alloc (.cells #[.int .i64 x.S, .slice x.ea x.en x.ec, .slice x.ra x.rn x.rc] 25)).alloc (.cells #[.int .i64 0, .slice none 0 0, .slice none 0 0] 25)) = w2) := hw2
  have HAA : Hid (w.heap.size = A) := hA
  have HRR : Hid (w.heap.size + 1 = R) := hR
  have HX : Hid (MaAt (fun _ => True) w M x) := hx
  clear hw2 hA hR kk hx h1 h2 hsz
  obtain ⟨xS, xa, xn, xc, xra, xrn, xrc⟩ := x
  have e3 : xn = M.es.length := HX.out.n
  have e5 : xrn = M.rs.length := HX.out.r
  have HLN : Hid (M.es.length = xn ∧ M.rs.length = xrn) := ⟨e3.symm, e5.symm⟩
  rw [← e3] at he
  rw [← e5] at hrr
  clear e3 e5
  unfold Nf.val
  simp only at HW2 ⊢
  go_enter Tryd.func13, Tryd.ntmps13
  go_upto_region 1 with fail
  rw [HW2.out, HRR.out, HAA.out]
  clear HW2
  obtain ⟨x0, x1, x2⟩ := HAR.out.1.cells
  simp only at x0 x1 x2
  -- x
  have k3 : Below w2.heap.size w2 (w2.alloc (.cells #[.int .i64 xS, .slice none 0 0, .slice none 0 0] 25)) := (Below.refl _ _).alloc (Nat.le_refl _) _
  have HC3 : Hid (Cq w A R w2.heap.size ⟨xS, xa, xn, xc, xra, xrn, xrc⟩ ⟨xS, none, 0, 0, none, 0, 0⟩ (w2.alloc (.cells #[.int .i64 xS, .slice none 0 0, .slice none 0 0] 25))) := by
    have hs := HAR.out.2.2.2
    exact ⟨HAR.out.1.later k3, HAR.out.2.1.later k3, nfb_new w2 ⟨xS, none, 0, 0, none, 0, 0⟩, below_step HAR.out.2.2.1 k3, by have := HRR.out; omega, by omega, by have := HAA.out; omega, by have := HRR.out; omega⟩
  clear k3 HAR
  go_upto_region 2 with fail
  obtain ⟨w3, hw3⟩ : ∃ w3, w2.alloc (.cells #[.int .i64 xS, .slice none 0 0, .slice none 0 0] 25) = w3 := ⟨_, rfl⟩
  obtain ⟨C, hC⟩ : ∃ C, w2.heap.size = C := ⟨_, rfl⟩
  rw [hw3] at HC3 ⊢
  rw [hC] at HC3 ⊢
  clear hw3 hC x0 x1 x2
  obtain ⟨x0, x1, x2⟩ := HC3.out.nf.cells
  obtain ⟨c0, c1, c2⟩ := HC3.out.cop.cells
  simp only at x0 x1 x2 c0 c1 c2
  have HS3 : Hid (EAt (fun _ => True) w3 xa M.es) := HX.out.e.keep (fun _ _ _ => trivial) (fun b _ hlt => HC3.out.low.block b hlt)
  obtain ⟨a4, c4, w4, hr4, ho4, hb4⟩ := run_edges0 w3 22 w.heap.size xa xn xc M.es HLN.out.1 HS3.out he HC3.out.low.size
  have HR4 : Hid ((Builtin.append_ #[22, 22] 22 #[.slice none 0 0, .slice xa xn xc]).run Tryd.prog w3 = .ok (.slice a4 xn c4) w4) := hr4
  have HO4 : Hid (RowE w4 w.heap.size (.slice a4 xn c4) M.es) := ho4
  have HC4 : Hid (Cq w A R C ⟨xS, xa, xn, xc, xra, xrn, xrc⟩ ⟨xS, none, 0, 0, none, 0, 0⟩ w4) := HC3.out.later hb4
  have kk : Below w4.heap.size w4 (w4.alloc (.cells #[.int .i64 77, .int .i64 0, .int .i64 0, .int .u64 0, .int .u64 0, .int .u64 0, .int .u64 0] 34)) := (Below.refl _ _).alloc (Nat.le_refl _) _
  have HC5 : Hid (Cq w A R C ⟨xS, xa, xn, xc, xra, xrn, xrc⟩ ⟨xS, none, 0, 0, none, 0, 0⟩ (w4.alloc (.cells #[.int .i64 77, .int .i64 0, .int .i64 0, .int .u64 0, .int .u64 0, .int .u64 0, .int .u64 0] 34))) := HC4.out.later kk
  have HO5 : Hid (RowE (w4.alloc (.cells #[.int .i64 77, .int .i64 0, .int .i64 0, .int .u64 0, .int .u64 0, .int .u64 0, .int .u64 0] 34)) w.heap.size (.slice a4 xn c4) M.es) := HO4.out.later kk
  have HM5 : Hid (∀ j v, (Eg.cells markE)[j]? = some v → (w4.alloc (.cells #[.int .i64 77, .int .i64 0, .int .i64 0, .int .u64 0, .int .u64 0, .int .u64 0, .int .u64 0] 34)).cell? ((⟨w4.heap.size, 0, none⟩ : Addr).add j) = some v) := fun j v hj => by
    unfold Eg.cells markE at hj
    simp only [word0] at hj
    rw [Go.WideShapes.add_plain, Nat.zero_add]
    simp only [World.cell?, heap_alloc_new]
    rw [← Array.getElem?_toList]
    exact hj
  clear kk hr4 ho4 hb4
  go_upto_region 3 with (at_builtin; first | (refine wpList_append_run 22 rfl _ _ rfl rfl rfl HR4.out ?_) | go_must (refine wpList_append_edge rfl _ _ rfl w.heap.size xn _ M.es rfl HLN.out.1 HO5.out ⟨w4.heap.size, 0, none⟩ 1 markE rfl HM5.out (by omega) HC5.out.low.size ?_; intro g6 c6 w6 hr6 hg6; have HO6 : Hid (RowE w6 w.heap.size (.slice (some ⟨g6, 0, none⟩) (xn + 1) c6) (M.es ++ [markE])) := hr6; have HC6 : Hid (Cq w A R C ⟨xS, xa, xn, xc, xra, xrn, xrc⟩ ⟨xS, none, 0, 0, none, 0, 0⟩ w6) := HC5.out.grown hg6 (fun k hk => ⟨(HO5.out.ty k hk).1, _, (HO5.out.ty k hk).2, by decide⟩); obtain ⟨_, y1, _⟩ := HC6.out.cop.cells; simp only at y1; have q1 := HC6.out.cop.frozen 1; clear hr6 hg6))
  have HC7 : Hid (Cq w A R C ⟨xS, xa, xn, xc, xra, xrn, xrc⟩ ⟨xS, some ⟨g6, 0, none⟩, xn + 1, c6, none, 0, 0⟩ (w6.setCell ⟨C, 1, none⟩ (.slice (some ⟨g6, 0, none⟩) (xn + 1) c6))) := HC6.out.setE _ _ _
  have HO7 : Hid (RowE (w6.setCell ⟨C, 1, none⟩ (.slice (some ⟨g6, 0, none⟩) (xn + 1) c6)) w.heap.size (.slice (some ⟨g6, 0, none⟩) (xn + 1) c6) (M.es ++ [markE])) := HO6.out.keep (fun b _ _ hb => Below.heap_setCell w6 ⟨C, 1, none⟩ _ b (fun e => by have e2 : b = C := e; subst e2; exact absurd (TyB.ne hb HC6.out.cop.ty) (by decide)))
  clear x0 x1 x2 c0 c1 c2 y1 q1 HC3 HS3 HR4 HO4 HC4 HC5 HO5 HM5
  obtain ⟨w7, hw7⟩ : ∃ w7, w6.setCell ⟨C, 1, none⟩ (.slice (some ⟨g6, 0, none⟩) (xn + 1) c6) = w7 := ⟨_, rfl⟩
  rw [hw7] at HC7 HO7 ⊢
  clear hw7 HC6 HO6
  obtain ⟨x0, x1, x2⟩ := HC7.out.nf.cells
  obtain ⟨c0, c1, c2⟩ := HC7.out.cop.cells
  simp only at x0 x1 x2 c0 c1 c2
  have HS7 : Hid (UAt (fun _ => True) w7 xra M.rs) := HX.out.u.keep (fun _ _ _ => trivial) (fun b _ hlt => HC7.out.low.block b hlt)
  obtain ⟨a8, c8, w8, hr8, ho8, hb8⟩ := run_words0 w7 23 w.heap.size xra xrn xrc M.rs HLN.out.2 HS7.out hrr HC7.out.low.size
  have HR8 : Hid ((Builtin.append_ #[23, 23] 23 #[.slice none 0 0, .slice xra xrn xrc]).run Tryd.prog w7 = .ok (.slice a8 xrn c8) w8) := hr8
  have kk : Below w8.heap.size w8 (w8.alloc (.cells #[.int .u32 77] 28)) := (Below.refl _ _).alloc (Nat.le_refl _) _
  have HC9 : Hid (Cq w A R C ⟨xS, xa, xn, xc, xra, xrn, xrc⟩ ⟨xS, some ⟨g6, 0, none⟩, xn + 1, c6, none, 0, 0⟩ (w8.alloc (.cells #[.int .u32 77] 28))) := (HC7.out.later hb8).later kk
  have HO9 : Hid (RowE (w8.alloc (.cells #[.int .u32 77] 28)) w.heap.size (.slice (some ⟨g6, 0, none⟩) (xn + 1) c6) (M.es ++ [markE])) := (HO7.out.later hb8).later kk
  have HU9 : Hid (RowU (w8.alloc (.cells #[.int .u32 77] 28)) w.heap.size (.slice a8 xrn c8) M.rs) := ho8.later kk
  have HM9 : Hid (∀ (j x : Nat), ([77] : List Nat)[j]? = some x → (w8.alloc (.cells #[.int .u32 77] 28)).cell? ⟨w8.heap.size, 0 + j, none⟩ = some (.int .u32 (x : Nat))) := fun j x hj => by
    cases j with
    | zero => simp at hj; subst hj; simp only [World.cell?, heap_alloc_new]; rfl
    | succ j => simp at hj
  clear kk hr8 ho8 hb8
  go_upto_region 4 with (at_builtin; first | (refine wpList_append_run 23 rfl _ _ rfl rfl rfl HR8.out ?_) | go_must (refine wpList_append_words rfl _ _ rfl w.heap.size xrn 1 _ M.rs [77] rfl HLN.out.2 HU9.out w8.heap.size 0 1 rfl rfl (by decide) HM9.out (by omega) HC9.out.low.size ?_; intro g10 c10 w10 hr10 hg10; have HU10 : Hid (RowU w10 w.heap.size (.slice (some ⟨g10, 0, none⟩) (xrn + 1) c10) (M.rs ++ [77])) := hr10; have HC10 : Hid (Cq w A R C ⟨xS, xa, xn, xc, xra, xrn, xrc⟩ ⟨xS, some ⟨g6, 0, none⟩, xn + 1, c6, none, 0, 0⟩ w10) := HC9.out.grown hg10 (fun k hk => ⟨(HU9.out.ty k hk).1, _, (HU9.out.ty k hk).2, by decide⟩); have HO10 : Hid (RowE w10 w.heap.size (.slice (some ⟨g6, 0, none⟩) (xn + 1) c6) (M.es ++ [markE])) := HO9.out.keep (fun b _ hlt hb => hg10.block b hlt (fun e => absurd (TyB.ne hb (HU9.out.ty b e.symm).2) (by decide))); obtain ⟨_, _, y2⟩ := HC10.out.cop.cells; simp only at y2; have q2 := HC10.out.cop.frozen 2; clear hr10 hg10))
  have HC11 : Hid (Cq w A R C ⟨xS, xa, xn, xc, xra, xrn, xrc⟩ ⟨xS, some ⟨g6, 0, none⟩, xn + 1, c6, some ⟨g10, 0, none⟩, xrn + 1, c10⟩ (w10.setCell ⟨C, 2, none⟩ (.slice (some ⟨g10, 0, none⟩) (xrn + 1) c10))) := HC10.out.setU _ _ _
  have HO11 : Hid (RowE (w10.setCell ⟨C, 2, none⟩ (.slice (some ⟨g10, 0, none⟩) (xrn + 1) c10)) w.heap.size (.slice (some ⟨g6, 0, none⟩) (xn + 1) c6) (M.es ++ [markE])) := HO10.out.keep (fun b _ _ hb => Below.heap_setCell w10 ⟨C, 2, none⟩ _ b (fun e => by have e2 : b = C := e; subst e2; exact absurd (TyB.ne hb HC10.out.cop.ty) (by decide)))
  have HU11 : Hid (RowU (w10.setCell ⟨C, 2, none⟩ (.slice (some ⟨g10, 0, none⟩) (xrn + 1) c10)) w.heap.size (.slice (some ⟨g10, 0, none⟩) (xrn + 1) c10) (M.rs ++ [77])) := HU10.out.keep (fun b _ _ hb => Below.heap_setCell w10 ⟨C, 2, none⟩ _ b (fun e => by have e2 : b = C := e; subst e2; exact absurd (TyB.ne hb HC10.out.cop.ty) (by decide)))
  clear x0 x1 x2 c0 c1 c2 y2 q2 HC7 HS7 HR8 HC9 HO9 HU9 HM9 HO7
  obtain ⟨w11, hw11⟩ : ∃ w11, w10.setCell ⟨C, 2, none⟩ (.slice (some ⟨g10, 0, none⟩) (xrn + 1) c10) = w11 := ⟨_, rfl⟩
  rw [hw11] at HC11 HO11 HU11 ⊢
  clear hw11 HC10 HO10 HU10
  have hc6 : xn + 1 ≤ c6 ∧ c6 ≤ maxLen := by
    obtain ⟨a2, c2, hV, h1, h2⟩ := HO11.out.form
    simp only [Value.slice.injEq] at hV
    obtain ⟨_, _, rfl⟩ := hV
    rw [List.length_append, HLN.out.1] at h1
    exact ⟨h1, h2⟩
  have hc10 : xrn + 1 ≤ c10 ∧ c10 ≤ maxLen := by
    obtain ⟨a2, c2, hV, h1, h2⟩ := HU11.out.form
    simp only [Value.slice.injEq] at hV
    obtain ⟨_, _, rfl⟩ := hV
    rw [List.length_append, HLN.out.2] at h1
    exact ⟨h1, h2⟩
  obtain ⟨hc6a, hc6b⟩ := hc6
  obtain ⟨hc10a, hc10b⟩ := hc10
  simp only [maxLen] at hc6b hc10b
  have t1 : (xn : Int) ≤ (c6 : Int) := by omega
  have t2 : (xrn : Int) ≤ (c10 : Int) := by omega
  obtain ⟨x0, x1, x2⟩ := HC11.out.nf.cells
  obtain ⟨c0, c1, c2⟩ := HC11.out.cop.cells
  simp only at x0 x1 x2 c0 c1 c2
  have q1 := HC11.out.cop.frozen 1
  have HC12 : Hid (Cq w A R C ⟨xS, xa, xn, xc, xra, xrn, xrc⟩ ⟨xS, some ⟨g6, 0, none⟩, xn, c6, some ⟨g10, 0, none⟩, xrn + 1, c10⟩ (w11.setCell ⟨C, 1, none⟩ (.slice (some ⟨g6, 0, none⟩) xn c6))) := HC11.out.setE _ _ _
  have HO12 : Hid (RowE (w11.setCell ⟨C, 1, none⟩ (.slice (some ⟨g6, 0, none⟩) xn c6)) w.heap.size (.slice (some ⟨g6, 0, none⟩) (xn + 1) c6) (M.es ++ [markE])) := HO11.out.keep (fun b _ _ hb => Below.heap_setCell w11 ⟨C, 1, none⟩ _ b (fun e => by have e2 : b = C := e; subst e2; exact absurd (TyB.ne hb HC11.out.cop.ty) (by decide)))
  have HU12 : Hid (RowU (w11.setCell ⟨C, 1, none⟩ (.slice (some ⟨g6, 0, none⟩) xn c6)) w.heap.size (.slice (some ⟨g10, 0, none⟩) (xrn + 1) c10) (M.rs ++ [77])) := HU11.out.keep (fun b _ _ hb => Below.heap_setCell w11 ⟨C, 1, none⟩ _ b (fun e => by have e2 : b = C := e; subst e2; exact absurd (TyB.ne hb HC11.out.cop.ty) (by decide)))
  go_upto_region 5 with fail
  clear x0 x1 x2 c0 c1 c2 q1
  obtain ⟨w12, hw12⟩ : ∃ w12, w11.setCell ⟨C, 1, none⟩ (.slice (some ⟨g6, 0, none⟩) xn c6) = w12 := ⟨_, rfl⟩
  rw [hw12] at HC12 HO12 HU12 ⊢
  clear hw12 HC11 HO11 HU11
  obtain ⟨x0, x1, x2⟩ := HC12.out.nf.cells
  obtain ⟨c0, c1, c2⟩ := HC12.out.cop.cells
  simp only at x0 x1 x2 c0 c1 c2
  have q2 := HC12.out.cop.frozen 2
  have HC13 : Hid (Cq w A R C ⟨xS, xa, xn, xc, xra, xrn, xrc⟩ ⟨xS, some ⟨g6, 0, none⟩, xn, c6, some ⟨g10, 0, none⟩, xrn, c10⟩ (w12.setCell ⟨C, 2, none⟩ (.slice (some ⟨g10, 0, none⟩) xrn c10))) := HC12.out.setU _ _ _
  have HO13 : Hid (RowE (w12.setCell ⟨C, 2, none⟩ (.slice (some ⟨g10, 0, none⟩) xrn c10)) w.heap.size (.slice (some ⟨g6, 0, none⟩) (xn + 1) c6) (M.es ++ [markE])) := HO12.out.keep (fun b _ _ hb => Below.heap_setCell w12 ⟨C, 2, none⟩ _ b (fun e => by have e2 : b = C := e; subst e2; exact absurd (TyB.ne hb HC12.out.cop.ty) (by decide)))
  have HU13 : Hid (RowU (w12.setCell ⟨C, 2, none⟩ (.slice (some ⟨g10, 0, none⟩) xrn c10)) w.heap.size (.slice (some ⟨g10, 0, none⟩) (xrn + 1) c10) (M.rs ++ [77])) := HU12.out.keep (fun b _ _ hb => Below.heap_setCell w12 ⟨C, 2, none⟩ _ b (fun e => by have e2 : b = C := e; subst e2; exact absurd (TyB.ne hb HC12.out.cop.ty) (by decide)))
  go_upto_region 6 with fail
  clear x0 x1 x2 c0 c1 c2 q2
  obtain ⟨w13, hw13⟩ : ∃ w13, w12.setCell ⟨C, 2, none⟩ (.slice (some ⟨g10, 0, none⟩) xrn c10) = w13 := ⟨_, rfl⟩
  rw [hw13] at HC13 HO13 HU13 ⊢
  clear hw13 HC12 HO12 HU12
  obtain ⟨c0, c1, c2⟩ := HC13.out.cop.cells
  simp only at c0 c1 c2
  obtain ⟨z0, z1, z2⟩ := HC13.out.res.cells
  simp only at z0 z1 z2
  have q0 := HC13.out.res.frozen 0
  have q1 := HC13.out.res.frozen 1
  have q2 := HC13.out.res.frozen 2
  have HF : Hid (CopO w.heap.size (put3 w13 R ⟨xS, some ⟨g6, 0, none⟩, xn, c6, some ⟨g10, 0, none⟩, xrn, c10⟩) M g6 c6 g10 c10 ∧ Below w.heap.size w (put3 w13 R ⟨xS, some ⟨g6, 0, none⟩, xn, c6, some ⟨g10, 0, none⟩, xrn, c10⟩)) := by
    refine ⟨⟨?_, ?_⟩, below_put3 HC13.out.low HC13.out.hr _⟩
    · rw [HLN.out.1]
      exact HO13.out.keep (fun b _ _ hb => heap_put3 w13 R _ b (fun e => by subst e; exact absurd (TyB.ne hb HC13.out.res.ty) (by decide)))
    · rw [HLN.out.2]
      exact HU13.out.keep (fun b _ _ hb => heap_put3 w13 R _ b (fun e => by subst e; exact absurd (TyB.ne hb HC13.out.res.ty) (by decide)))
  have HG : Hid (NFB (put3 w13 R ⟨xS, some ⟨g6, 0, none⟩, xn, c6, some ⟨g10, 0, none⟩, xrn, c10⟩) R ⟨xS, some ⟨g6, 0, none⟩, xn, c6, some ⟨g10, 0, none⟩, xrn, c10⟩) := NFB.put3 (w := w13) (y := ⟨0, none, 0, 0, none, 0, 0⟩) HC13.out.res _
  clear HO13 HU13 HC13
  unfold put3 at HF HG
  simp only at HF HG
  go_wp2
  exact bodyPost_ret (res_copied (y := ⟨xS, some ⟨g6, 0, none⟩, xn, c6, some ⟨g10, 0, none⟩, xrn, c10⟩) rfl HG.out) rfl ⟨g6, c6, g10, c10, rfl, HF.out⟩
end Go.Proofs.YtmjnobdlgbojoaaDoor
