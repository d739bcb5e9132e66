/- heronlaw07's copied, walked. -/
import Derived.Test.YtjmbimgofceanaaG33
namespace Go.Proofs.Ytjmbimgofceanaa
open Go.RowKit
attribute [local go_sem ↓] Go.wp_at_zero Go.wp_at_succ

structure Cp (w : World) (A R : Nat) (x : Nf) (u : World) : Prop where
  nf : NFB u A x
  res : NFB u R ⟨0, none, 0, 0, none, 0, 0⟩
  low : Below w.heap.size w u
section
variable {w : World} {A R : Nat} {x : Nf} {u u' : World}
theorem Cp.later (h : Cp w A R x u) (hb : Below u.heap.size u u') : Cp w A R x u' := ⟨h.nf.later hb, h.res.later hb, below_step h.low hb⟩
theorem Cp.grown (h : Cp w A R x u) {r : Option Nat} (hg : u.grownBy u' r) (hr : ∀ k, r = some k → w.heap.size ≤ k ∧ ∃ t, TyB u t k ∧ t ≠ 38) : Cp w A R x u' := by
  have hst : ∀ {b : Nat} {y : Nf}, NFB u b y → NFB u' b y := fun {b y} hb => (hg.block b hb.lt (fun e => by
    obtain ⟨_, t, h1, h2⟩ := hr b e.symm
    exact h2 (TyB.ne h1 hb.ty))).trans hb
  exact ⟨hst h.nf, hst h.res, ⟨hg.os.trans h.low.os, hg.tape.trans h.low.tape, hg.output.trans h.low.output, Nat.le_trans h.low.size hg.size, fun k hk => (hg.block k (Nat.lt_of_lt_of_le hk h.low.size) (fun e => by have := (hr k e.symm).1; omega)).trans (h.low.block k hk)⟩⟩
end
theorem res_copied {tmps : Array Value} {w : World} {R : Nat} {y : Nf} (h4 : tmps[2]?.getD undef = .pointer (some ⟨R, 0, none⟩)) (hR : NFB w R y) : (results Try.f20 tmps).run Try.prog w = .ok y.val w := by
  obtain ⟨t0, t1, t2⟩ := hR.cells
  unfold Nf.val
  simp [results, Try.results20, go_sem, h4, t0, t1, t2]
set_option maxRecDepth 4000 in
set_option maxHeartbeats 16000000 in
theorem copied_any {X : Nat → Prop} {M : Ma} {x : Nf} (w : World) (hx : MaAt X w M x) (he : M.es.length ≤ 10000000) (hrr : M.rs.length ≤ 10000000) : Calls Try.prog 20 #[x.val] w fun e w' => Below w.heap.size w w' ∧ ∃ y : Nf, e = .returned y.val ∧ Cop (fun b => w.heap.size ≤ b ∧ ¬ TyB w' 38 b) w' M y := by
  have kk : Below w.heap.size w ((w.alloc (.cells #[.int .i64 x.S, .slice x.ea x.en x.ec, .slice x.ra x.rn x.rc] 38)).alloc (.cells #[.int .i64 0, .slice none 0 0, .slice none 0 0] 38)) := ((Below.refl _ _).alloc (Nat.le_refl _) _).alloc (by simp) _
  have HCP : Hid (Cp w w.heap.size (w.heap.size + 1) x ((w.alloc (.cells #[.int .i64 x.S, .slice x.ea x.en x.ec, .slice x.ra x.rn x.rc] 38)).alloc (.cells #[.int .i64 0, .slice none 0 0, .slice none 0 0] 38))) := by
    refine ⟨(nfb_new w x).later ((Below.refl _ _).alloc (Nat.le_refl _) _), ?_, kk⟩
    have h1 := nfb_new (w.alloc (.cells #[.int .i64 x.S, .slice x.ea x.en x.ec, .slice x.ra x.rn x.rc] 38)) ⟨0, none, 0, 0, none, 0, 0⟩
    rw [show (w.alloc (.cells #[.int .i64 x.S, .slice x.ea x.en x.ec, .slice x.ra x.rn x.rc] 38)).heap.size = w.heap.size + 1 by simp] at h1
    exact h1
  obtain ⟨w2, hw2⟩ : ∃ w2, (w.alloc (.cells #[.int .i64 x.S, .slice x.ea x.en x.ec, .slice x.ra x.rn x.rc] 38)).alloc (.cells #[.int .i64 0, .slice none 0 0, .slice none 0 0] 38) = w2 := ⟨_, rfl⟩
  rw [hw2] at HCP
  obtain ⟨A, hA⟩ : ∃ A, w.heap.size = A := ⟨_, rfl⟩
  obtain ⟨R, hR⟩ : ∃ R, w.heap.size + 1 = R := ⟨_, rfl⟩
  have HR0 : Hid (w.heap.size ≤ R) := by show _ ≤ _; omega
  rw [hR] at HCP
  have HCP2 : Hid (Cp w A R x w2) := by have h := HCP.out; rw [hA] at h; rw [← hA] at h ⊢; exact h
  clear HCP
  have HW2 : Hid ((w.alloc (.cells #[.int .i64 x.S, .slice x.ea x.en x.ec, .slice x.ra x.rn x.rc] 38)).alloc (.cells #[.int .i64 0, .slice none 0 0, .slice none 0 0] 38) = w2) := hw2
  have HAA : Hid (w.heap.size = A) := hA
  have HRR : Hid (w.heap.size + 1 = R) := hR
  have HX : Hid (MaAt (fun _ => True) w M x) := hx.keep (fun _ _ _ => trivial) (fun _ _ _ => rfl)
  clear hw2 hA hR kk hx
  obtain ⟨xS, xa, xn, xc, xra, xrn, xrc⟩ := x
  have e1 : xS = M.S := HX.out.s
  have e3 : xn = M.es.length := HX.out.n
  have e5 : xrn = M.rs.length := HX.out.r
  have HLN : Hid (xS = M.S ∧ M.es.length = xn ∧ M.rs.length = xrn) := ⟨e1, e3.symm, e5.symm⟩
  rw [← e3] at he
  rw [← e5] at hrr
  clear e1 e3 e5
  unfold Nf.val
  simp only at HW2 ⊢
  go_enter Try.func20, Try.ntmps20
  go_upto_region 1 with fail
  rw [HW2.out, HRR.out, HAA.out]
  clear HW2
  obtain ⟨x0, x1, x2⟩ := HCP2.out.nf.cells
  simp only at x0 x1 x2
  have kk : Below w2.heap.size w2 (w2.alloc (.cells #[] 57)) := (Below.refl _ _).alloc (Nat.le_refl _) _
  have HC3 : Hid (Cp w A R ⟨xS, xa, xn, xc, xra, xrn, xrc⟩ (w2.alloc (.cells #[] 57))) := HCP2.out.later kk
  have HE3 : Hid (RowE (w2.alloc (.cells #[] 57)) w.heap.size (.slice (some ⟨w2.heap.size, 0, none⟩) 0 0) []) := rowE_empty w2 _ HCP2.out.low.size
  have HS3 : Hid (EAt (fun _ => True) (w2.alloc (.cells #[] 57)) xa M.es) := HX.out.e.keep (fun _ _ _ => trivial) (fun b _ hlt => HC3.out.low.block b hlt)
  obtain ⟨z0, z1, z2⟩ := HC3.out.nf.cells
  simp only at z0 z1 z2
  obtain ⟨g4, c4, w4, hr4, ho4, hg4⟩ := run_append_edges (w2.alloc (.cells #[] 57)) 35 w.heap.size w2.heap.size 0 0 [] rfl HE3.out xa xn xc M.es HLN.out.2.1 HS3.out (by omega) HC3.out.low.size
  rw [Nat.zero_add, List.nil_append] at ho4
  rw [Nat.zero_add] at hr4
  have HR4 : Hid ((Builtin.append_ #[35, 35] 35 #[.slice (some ⟨w2.heap.size, 0, none⟩) 0 0, .slice xa xn xc]).run Try.prog (w2.alloc (.cells #[] 57)) = .ok (.slice (some ⟨g4, 0, none⟩) xn c4) w4) := hr4
  have HO4 : Hid (RowE w4 w.heap.size (.slice (some ⟨g4, 0, none⟩) xn c4) M.es) := ho4
  have HC4 : Hid (Cp w A R ⟨xS, xa, xn, xc, xra, xrn, xrc⟩ w4) := HC3.out.grown hg4 (fun k hk => by cases hk; exact ⟨HCP2.out.low.size, _, ⟨_, _, heap_alloc_new w2 _⟩, by decide⟩)
  clear hr4 ho4 hg4 kk
  have kk : Below w4.heap.size w4 (w4.alloc (.cells #[.int .i64 77, .int .i64 0, .int .i64 0, .int .u64 0, .int .u64 0, .int .u64 0, .int .u64 0] 57)) := (Below.refl _ _).alloc (Nat.le_refl _) _
  have HC5 : Hid (Cp w A R ⟨xS, xa, xn, xc, xra, xrn, xrc⟩ (w4.alloc (.cells #[.int .i64 77, .int .i64 0, .int .i64 0, .int .u64 0, .int .u64 0, .int .u64 0, .int .u64 0] 57))) := HC4.out.later kk
  have HO5 : Hid (RowE (w4.alloc (.cells #[.int .i64 77, .int .i64 0, .int .i64 0, .int .u64 0, .int .u64 0, .int .u64 0, .int .u64 0] 57)) w.heap.size (.slice (some ⟨g4, 0, none⟩) xn c4) M.es) := HO4.out.later kk
  have HM5 : Hid (∀ j v, (Eg.cells markE)[j]? = some v → (w4.alloc (.cells #[.int .i64 77, .int .i64 0, .int .i64 0, .int .u64 0, .int .u64 0, .int .u64 0, .int .u64 0] 57)).cell? ((⟨w4.heap.size, 0, none⟩ : Addr).add j) = some v) := fun j v hj => by
    unfold Eg.cells markE at hj
    simp only [word0] at hj
    rw [Go.WideShapes.add_plain, Nat.zero_add]
    simp only [World.cell?, heap_alloc_new]
    rw [← Array.getElem?_toList]
    exact hj
  clear kk
  go_upto_region 2 with (at_builtin; first | (refine wpList_append_run 35 rfl _ _ rfl rfl rfl HR4.out ?_) | go_must (refine wpList_append_edge rfl _ _ rfl w.heap.size xn _ M.es rfl HLN.out.2.1 HO5.out ⟨w4.heap.size, 0, none⟩ 1 markE rfl HM5.out (by omega) HC5.out.low.size ?_; intro g6 c6 w6 hr6 hg6; have HO6 : Hid (RowE w6 w.heap.size (.slice (some ⟨g6, 0, none⟩) (xn + 1) c6) (M.es ++ [markE])) := hr6; have HC6 : Hid (Cp w A R ⟨xS, xa, xn, xc, xra, xrn, xrc⟩ w6) := HC5.out.grown hg6 (fun k hk => ⟨(HO5.out.ty k hk).1, _, (HO5.out.ty k hk).2, by decide⟩); clear hr6 hg6))
  clear x0 x1 x2 z0 z1 z2 HC3 HE3 HS3 HR4 HO4 HC4 HC5 HO5 HM5 HCP2
  obtain ⟨x0, x1, x2⟩ := HC6.out.nf.cells
  simp only at x0 x1 x2
  have kk : Below w6.heap.size w6 (w6.alloc (.cells #[] 44)) := (Below.refl _ _).alloc (Nat.le_refl _) _
  have HC3 : Hid (Cp w A R ⟨xS, xa, xn, xc, xra, xrn, xrc⟩ (w6.alloc (.cells #[] 44))) := HC6.out.later kk
  have HO7 : Hid (RowE (w6.alloc (.cells #[] 44)) w.heap.size (.slice (some ⟨g6, 0, none⟩) (xn + 1) c6) (M.es ++ [markE])) := HO6.out.later kk
  have HE3 : Hid (RowU (w6.alloc (.cells #[] 44)) w.heap.size (.slice (some ⟨w6.heap.size, 0, none⟩) 0 0) []) := rowU_empty w6 _ HC6.out.low.size
  have HS3 : Hid (UAt (fun _ => True) (w6.alloc (.cells #[] 44)) xra M.rs) := HX.out.u.keep (fun _ _ _ => trivial) (fun b _ hlt => HC3.out.low.block b hlt)
  obtain ⟨z0, z1, z2⟩ := HC3.out.nf.cells
  simp only at z0 z1 z2
  obtain ⟨g8, c8, w8, hr8, ho8, hg8⟩ := run_append_words (w6.alloc (.cells #[] 44)) 36 w.heap.size w6.heap.size 0 0 [] rfl HE3.out xra xrn xrc M.rs HLN.out.2.2 HS3.out (by omega) HC3.out.low.size
  rw [Nat.zero_add, List.nil_append] at ho8
  rw [Nat.zero_add] at hr8
  have hTU : TyB (w6.alloc (.cells #[] 44)) 44 w6.heap.size := ⟨_, _, heap_alloc_new w6 _⟩
  have HR8 : Hid ((Builtin.append_ #[36, 36] 36 #[.slice (some ⟨w6.heap.size, 0, none⟩) 0 0, .slice xra xrn xrc]).run Try.prog (w6.alloc (.cells #[] 44)) = .ok (.slice (some ⟨g8, 0, none⟩) xrn c8) w8) := hr8
  have HU8 : Hid (RowU w8 w.heap.size (.slice (some ⟨g8, 0, none⟩) xrn c8) M.rs) := ho8
  have HC8 : Hid (Cp w A R ⟨xS, xa, xn, xc, xra, xrn, xrc⟩ w8) := HC3.out.grown hg8 (fun k hk => by cases hk; exact ⟨HC6.out.low.size, _, hTU, by decide⟩)
  have HO8 : Hid (RowE w8 w.heap.size (.slice (some ⟨g6, 0, none⟩) (xn + 1) c6) (M.es ++ [markE])) := HO7.out.keep (fun b _ hlt ht => hg8.block b hlt (fun e => by cases e; exact absurd (TyB.ne ht hTU) (by decide)))
  clear hr8 ho8 hg8 kk hTU
  have kk : Below w8.heap.size w8 (w8.alloc (.cells #[.int .u32 77] 44)) := (Below.refl _ _).alloc (Nat.le_refl _) _
  have HC9 : Hid (Cp w A R ⟨xS, xa, xn, xc, xra, xrn, xrc⟩ (w8.alloc (.cells #[.int .u32 77] 44))) := HC8.out.later kk
  have HO9 : Hid (RowE (w8.alloc (.cells #[.int .u32 77] 44)) w.heap.size (.slice (some ⟨g6, 0, none⟩) (xn + 1) c6) (M.es ++ [markE])) := HO8.out.later kk
  have HU9 : Hid (RowU (w8.alloc (.cells #[.int .u32 77] 44)) w.heap.size (.slice (some ⟨g8, 0, none⟩) xrn c8) M.rs) := HU8.out.later kk
  have HM9 : Hid (∀ (j x : Nat), ([77] : List Nat)[j]? = some x → (w8.alloc (.cells #[.int .u32 77] 44)).cell? ⟨w8.heap.size, 0 + j, none⟩ = some (.int .u32 (x : Nat))) := fun j x hj => by
    cases j with
    | zero => simp at hj; subst hj; simp only [World.cell?, heap_alloc_new]; rfl
    | succ j => simp at hj
  clear kk
  go_upto_region 3 with (at_builtin; first | (refine wpList_append_run 36 rfl _ _ rfl rfl rfl HR8.out ?_) | go_must (refine wpList_append_words rfl _ _ rfl w.heap.size xrn 1 _ M.rs [77] rfl HLN.out.2.2 HU9.out w8.heap.size 0 1 rfl rfl (by decide) HM9.out (by omega) HC9.out.low.size ?_; intro g10 c10 w10 hr10 hg10; have HU10 : Hid (RowU w10 w.heap.size (.slice (some ⟨g10, 0, none⟩) (xrn + 1) c10) (M.rs ++ [77])) := hr10; have HC10 : Hid (Cp w A R ⟨xS, xa, xn, xc, xra, xrn, xrc⟩ w10) := HC9.out.grown hg10 (fun k hk => ⟨(HU9.out.ty k hk).1, _, (HU9.out.ty k hk).2, by decide⟩); have HO10 : Hid (RowE w10 w.heap.size (.slice (some ⟨g6, 0, none⟩) (xn + 1) c6) (M.es ++ [markE])) := HO9.out.keep (fun b _ hlt ht => hg10.block b hlt (fun e => absurd (TyB.ne ht (HU9.out.ty b e.symm).2) (by decide))); clear hr10 hg10))
  clear x0 x1 x2 z0 z1 z2 HC3 HE3 HS3 HR8 HO6 HO7 HO8 HC6 HC8 HC9 HO9 HU8 HU9 HM9
  obtain ⟨x0, x1, x2⟩ := HC10.out.nf.cells
  simp only at x0 x1 x2
  obtain ⟨z0, z1, z2⟩ := HC10.out.res.cells
  simp only at z0 z1 z2
  have q0 := HC10.out.res.frozen 0
  have q1 := HC10.out.res.frozen 1
  have q2 := HC10.out.res.frozen 2
  have hc6 : xn + 1 ≤ c6 ∧ c6 ≤ maxLen := by
    obtain ⟨a2, c2, hV, h1, h2⟩ := HO10.out.form
    simp only [Value.slice.injEq] at hV
    obtain ⟨_, _, rfl⟩ := hV
    rw [List.length_append, HLN.out.2.1] at h1
    exact ⟨h1, h2⟩
  have hc10 : xrn + 1 ≤ c10 ∧ c10 ≤ maxLen := by
    obtain ⟨a2, c2, hV, h1, h2⟩ := HU10.out.form
    simp only [Value.slice.injEq] at hV
    obtain ⟨_, _, rfl⟩ := hV
    rw [List.length_append, HLN.out.2.2] at h1
    exact ⟨h1, h2⟩
  obtain ⟨hc6a, hc6b⟩ := hc6
  obtain ⟨hc10a, hc10b⟩ := hc10
  have HF : Hid (Below w.heap.size w (put3 w10.drew R ⟨xS, some ⟨g6, 0, none⟩, xn, c6, some ⟨g10, 0, none⟩, xrn, c10⟩) ∧ ∃ y : Nf, Ending.returned (Nf.val ⟨xS, some ⟨g6, 0, none⟩, xn, c6, some ⟨g10, 0, none⟩, xrn, c10⟩) = .returned y.val ∧ Cop (fun b => w.heap.size ≤ b ∧ ¬ TyB (put3 w10.drew R ⟨xS, some ⟨g6, 0, none⟩, xn, c6, some ⟨g10, 0, none⟩, xrn, c10⟩) 38 b) (put3 w10.drew R ⟨xS, some ⟨g6, 0, none⟩, xn, c6, some ⟨g10, 0, none⟩, xrn, c10⟩) M y) := by
    refine ⟨below_put3 HC10.out.low.drew HR0.out _, _, rfl, ?_⟩
    have hkE : ∀ k, k ≠ R → (put3 w10.drew R ⟨xS, some ⟨g6, 0, none⟩, xn, c6, some ⟨g10, 0, none⟩, xrn, c10⟩).heap[k]? = w10.heap[k]? := fun k hk => heap_put3 w10.drew R _ k hk
    have h1 := (HO10.out.keep (w' := put3 w10.drew R ⟨xS, some ⟨g6, 0, none⟩, xn, c6, some ⟨g10, 0, none⟩, xrn, c10⟩) (fun b _ _ hb => hkE b (fun e => absurd (TyB.ne hb (e ▸ HC10.out.res.ty)) (by decide)))).at2
    have h2 := (HU10.out.keep (w' := put3 w10.drew R ⟨xS, some ⟨g6, 0, none⟩, xn, c6, some ⟨g10, 0, none⟩, xrn, c10⟩) (fun b _ _ hb => hkE b (fun e => absurd (TyB.ne hb (e ▸ HC10.out.res.ty)) (by decide)))).at2
    exact ⟨HLN.out.1, HLN.out.2.1.symm, HLN.out.2.2.symm, h1.keep (fun b hb _ => ⟨hb.1, fun h => absurd (TyB.ne hb.2 h) (by decide)⟩) (fun _ _ _ => rfl), h2.keep (fun b hb _ => ⟨hb.1, fun h => absurd (TyB.ne hb.2 h) (by decide)⟩) (fun _ _ _ => rfl), by rw [HLN.out.2.1]; exact ⟨hc6a, hc6b⟩, by rw [HLN.out.2.2]; exact ⟨hc10a, hc10b⟩⟩
  have HG : Hid (NFB (put3 w10.drew R ⟨xS, some ⟨g6, 0, none⟩, xn, c6, some ⟨g10, 0, none⟩, xrn, c10⟩) R ⟨xS, some ⟨g6, 0, none⟩, xn, c6, some ⟨g10, 0, none⟩, xrn, c10⟩) := NFB.put3 (w := w10.drew) (y := ⟨0, none, 0, 0, none, 0, 0⟩) HC10.out.res _
  unfold put3 at HF HG
  simp only at HF HG
  simp only [maxLen] at hc6b hc10b
  have t1 : (xn : Int) ≤ (c6 : Int) := by omega
  have t2 : (xrn : Int) ≤ (c10 : Int) := by omega
  go_region
  all_goals
    go_wp2
    exact bodyPost_ret (res_copied (y := ⟨xS, some ⟨g6, 0, none⟩, xn, c6, some ⟨g10, 0, none⟩, xrn, c10⟩) rfl HG.out) rfl HF.out
end Go.Proofs.Ytjmbimgofceanaa
