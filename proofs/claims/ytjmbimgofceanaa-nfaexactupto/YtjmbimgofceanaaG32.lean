/- heronref07's Build. -/
import Derived.Test.YtjmbimgofceanaaG30
namespace Go.Proofs.Ytjmbimgofceanaa
open Go.RowKit
attribute [local go_sem ↓] Go.wp_at_zero Go.wp_at_succ

/-- WHAT Build LEAVES. -/
def BuildPost (w : World) (t : Tn) (rule : Int) (e : Ending) (w' : World) : Prop := Below w.heap.size w w' ∧ ∃ y : Nf, e = .returned (.tuple #[y.val, .int .i64 ((buildOf t rule).2 : Nat)]) ∧ MaAt (fun b => w.heap.size ≤ b ∧ ¬ TyB w' 38 b) w' (buildOf t rule).1 y
theorem res_build {tmps : Array Value} {w : World} {R : Nat} {y : Nf} {v5 : Value} (h4 : tmps[4]?.getD undef = .pointer (some ⟨R, 0, none⟩)) (h5 : tmps[5]?.getD undef = v5) (hR : NFB w R y) : (results Try.f18 tmps).run Try.prog w = .ok (.tuple #[y.val, v5]) w := by
  obtain ⟨t0, t1, t2⟩ := hR.cells
  unfold Nf.val
  simp [results, Try.results18, go_sem, h4, h5, t0, t1, t2]
theorem post_build {Q : Ending → World → Prop} {a : Act} {w : World} {R : Nat} {y : Nf} {v5 : Value} (hd : a.defers = []) (h4 : a.tmps[4]?.getD undef = .pointer (some ⟨R, 0, none⟩)) (h5 : a.tmps[5]?.getD undef = v5) (hR : NFB w R y) (hQ : Q (.returned (.tuple #[y.val, v5])) w) : bodyPost Try.prog Try.f18 Q .ret a w :=
  bodyPost_ret (res_build h4 h5 hR) hd hQ
/-- a refusal -/
theorem build_no {w u : World} {t : Tn} {rule : Int} {R k : Nat} (hb : Below w.heap.size w u) (hR : w.heap.size ≤ R) (hk : buildOf t rule = (zeroMa, k)) : BuildPost w t rule (.returned (.tuple #[Nf.val ⟨0, none, 0, 0, none, 0, 0⟩, .int .i64 (k : Nat)])) (put3 u R ⟨0, none, 0, 0, none, 0, 0⟩) := by
  unfold BuildPost
  rw [hk]
  exact ⟨below_put3 hb hR _, _, rfl, zero_maAt _ _⟩
set_option maxRecDepth 4000 in
set_option maxHeartbeats 16000000 in
theorem build_any {t : Tn} {x : Nd} (w : World) (h : InAt w t x) (rule : Int) : Calls Try.prog 18 #[x.val, .int .i64 rule] w (BuildPost w t rule) := by
  have kk : Below w.heap.size w ((w.alloc (.cells #[.int .i64 x.k, .int .u64 (Oct.word x.s 0 : Nat), .int .u64 (Oct.word x.s 1 : Nat), .int .u64 (Oct.word x.s 2 : Nat), .int .u64 (Oct.word x.s 3 : Nat), .slice x.a x.n x.c, .int .i64 x.mn, .int .i64 x.mx] 30)).alloc (.cells #[.int .i64 0, .slice none 0 0, .slice none 0 0] 38)) := ((Below.refl _ _).alloc (Nat.le_refl _) _).alloc (by simp) _
  have HNB : Hid (NB ((w.alloc (.cells #[.int .i64 x.k, .int .u64 (Oct.word x.s 0 : Nat), .int .u64 (Oct.word x.s 1 : Nat), .int .u64 (Oct.word x.s 2 : Nat), .int .u64 (Oct.word x.s 3 : Nat), .slice x.a x.n x.c, .int .i64 x.mn, .int .i64 x.mx] 30)).alloc (.cells #[.int .i64 0, .slice none 0 0, .slice none 0 0] 38)) w.heap.size x) := (nb_new w x).later ((Below.refl _ _).alloc (Nat.le_refl _) _)
  have HRB : Hid (NFB ((w.alloc (.cells #[.int .i64 x.k, .int .u64 (Oct.word x.s 0 : Nat), .int .u64 (Oct.word x.s 1 : Nat), .int .u64 (Oct.word x.s 2 : Nat), .int .u64 (Oct.word x.s 3 : Nat), .slice x.a x.n x.c, .int .i64 x.mn, .int .i64 x.mx] 30)).alloc (.cells #[.int .i64 0, .slice none 0 0, .slice none 0 0] 38)) (w.heap.size + 1) ⟨0, none, 0, 0, none, 0, 0⟩) := by
    have h1 := nfb_new (w.alloc (.cells #[.int .i64 x.k, .int .u64 (Oct.word x.s 0 : Nat), .int .u64 (Oct.word x.s 1 : Nat), .int .u64 (Oct.word x.s 2 : Nat), .int .u64 (Oct.word x.s 3 : Nat), .slice x.a x.n x.c, .int .i64 x.mn, .int .i64 x.mx] 30)) ⟨0, none, 0, 0, none, 0, 0⟩
    rw [show (w.alloc (.cells #[.int .i64 x.k, .int .u64 (Oct.word x.s 0 : Nat), .int .u64 (Oct.word x.s 1 : Nat), .int .u64 (Oct.word x.s 2 : Nat), .int .u64 (Oct.word x.s 3 : Nat), .slice x.a x.n x.c, .int .i64 x.mn, .int .i64 x.mx] 30)).heap.size = w.heap.size + 1 by simp] at h1
    exact h1
  have HB : Hid (Below w.heap.size w ((w.alloc (.cells #[.int .i64 x.k, .int .u64 (Oct.word x.s 0 : Nat), .int .u64 (Oct.word x.s 1 : Nat), .int .u64 (Oct.word x.s 2 : Nat), .int .u64 (Oct.word x.s 3 : Nat), .slice x.a x.n x.c, .int .i64 x.mn, .int .i64 x.mx] 30)).alloc (.cells #[.int .i64 0, .slice none 0 0, .slice none 0 0] 38))) := kk
  obtain ⟨w2, hw2⟩ : ∃ w2, (w.alloc (.cells #[.int .i64 x.k, .int .u64 (Oct.word x.s 0 : Nat), .int .u64 (Oct.word x.s 1 : Nat), .int .u64 (Oct.word x.s 2 : Nat), .int .u64 (Oct.word x.s 3 : Nat), .slice x.a x.n x.c, .int .i64 x.mn, .int .i64 x.mx] 30)).alloc (.cells #[.int .i64 0, .slice none 0 0, .slice none 0 0] 38) = w2 := ⟨_, rfl⟩
  rw [hw2] at HNB HRB HB
  obtain ⟨A, hA⟩ : ∃ A, w.heap.size = A := ⟨_, rfl⟩
  obtain ⟨R, hR⟩ : ∃ R, w.heap.size + 1 = R := ⟨_, rfl⟩
  rw [hA] at HNB
  rw [hR] at HRB
  have HW2 : Hid ((w.alloc (.cells #[.int .i64 x.k, .int .u64 (Oct.word x.s 0 : Nat), .int .u64 (Oct.word x.s 1 : Nat), .int .u64 (Oct.word x.s 2 : Nat), .int .u64 (Oct.word x.s 3 : Nat), .slice x.a x.n x.c, .int .i64 x.mn, .int .i64 x.mx] 30)).alloc (.cells #[.int .i64 0, .slice none 0 0, .slice none 0 0] 38) = w2) := hw2
  have HAA : Hid (w.heap.size = A) := hA
  have HRR : Hid (w.heap.size + 1 = R) := hR
  have HRR2 : Hid (w.heap.size ≤ R) := by show _ ≤ _; omega
  have HIN : Hid (InAt w t x) := h
  clear hw2 hA hR kk h
  obtain ⟨y0, y1, y2, y3, y4, y5, y6, y7⟩ := HNB.out.cells
  have HCI : Hid (Calls Try.prog 37 #[x.val] w2 _) := isR_any HIN.out w2 HB.out
  unfold Nd.val at HCI
  unfold Nd.val
  go_enter Try.func18, Try.ntmps18
  go_upto_region 1 with fail
  rw [HW2.out, HRR.out, HAA.out]
  clear HW2
  go_wp2_with fail
  refine HCI.out.mono ?_
  rintro e w3 ⟨rfl, k3⟩
  have HB3 : Hid (Below w.heap.size w w3) := below_step HB.out k3
  have HN3 : Hid (NB w3 A x) := HNB.out.later k3
  have HR3 : Hid (NFB w3 R ⟨0, none, 0, 0, none, 0, 0⟩) := HRB.out.later k3
  clear k3 HB HNB HRB HCI y0 y1 y2 y3 y4 y5 y6 y7
  obtain ⟨z0, z1, z2⟩ := HR3.out.cells
  simp only at z0 z1 z2
  have q0 := HR3.out.frozen 0
  have q1 := HR3.out.frozen 1
  have q2 := HR3.out.frozen 2
  obtain ⟨V, hV⟩ : ∃ V, (plc t).2 = V := ⟨_, rfl⟩
  rw [hV]
  cases V with
  | false =>
    have HF : Hid (BuildPost w t rule (.returned (.tuple #[Nf.val ⟨0, none, 0, 0, none, 0, 0⟩, .int .i64 ((50 : Nat) : Nat)])) (put3 w3 R ⟨0, none, 0, 0, none, 0, 0⟩)) := build_no HB3.out HRR2.out (by unfold buildOf; rw [if_pos hV])
    have HG : Hid (NFB (put3 w3 R ⟨0, none, 0, 0, none, 0, 0⟩) R ⟨0, none, 0, 0, none, 0, 0⟩) := HR3.out.put3 _
    unfold put3 at HF HG
    simp only at HF HG
    go_wp2
    exact post_build (y := ⟨0, none, 0, 0, none, 0, 0⟩) rfl rfl rfl HG.out HF.out
  | true =>
    have HPV : Hid ((plc t).2 = true) := hV
    clear hV
    obtain ⟨y0, y1, y2, y3, y4, y5, y6, y7⟩ := HN3.out.cells
    have HCP : Hid (Calls Try.prog 38 #[x.val] w3 _) := rPlaces_any w3 (HIN.out.later HB3.out)
    obtain ⟨P, hP⟩ : ∃ P, placesOf t = P := ⟨_, rfl⟩
    rw [hP] at HCP
    have HPP : Hid (placesOf t = P) := hP
    clear hP
    unfold Nd.val at HCP
    go_wp2_with fail
    refine HCP.out.mono ?_
    rintro e w4 ⟨rfl, k4⟩
    have HB4 : Hid (Below w.heap.size w w4) := below_step HB3.out k4
    have HN4 : Hid (NB w4 A x) := HN3.out.later k4
    have HR4 : Hid (NFB w4 R ⟨0, none, 0, 0, none, 0, 0⟩) := HR3.out.later k4
    clear k4 HB3 HN3 HR3 HCP y0 y1 y2 y3 y4 y5 y6 y7 z0 z1 z2 q0 q1 q2
    obtain ⟨z0, z1, z2⟩ := HR4.out.cells
    simp only at z0 z1 z2
    have q0 := HR4.out.frozen 0
    have q1 := HR4.out.frozen 1
    have q2 := HR4.out.frozen 2
    by_cases hP2 : 2048 < P
    · have hP3 : (2048 : Int) < (P : Int) := by omega
      have HF : Hid (BuildPost w t rule (.returned (.tuple #[Nf.val ⟨0, none, 0, 0, none, 0, 0⟩, .int .i64 ((48 : Nat) : Nat)])) (put3 w4 R ⟨0, none, 0, 0, none, 0, 0⟩)) := build_no HB4.out HRR2.out (by unfold buildOf; rw [if_neg (by rw [HPV.out]; decide), if_pos (by rw [HPP.out]; exact hP2)])
      have HG : Hid (NFB (put3 w4 R ⟨0, none, 0, 0, none, 0, 0⟩) R ⟨0, none, 0, 0, none, 0, 0⟩) := HR4.out.put3 _
      unfold put3 at HF HG
      simp only at HF HG
      go_wp2
      exact post_build (y := ⟨0, none, 0, 0, none, 0, 0⟩) rfl rfl rfl HG.out HF.out
    have hP3 : ¬ (2048 : Int) < (P : Int) := by omega
    by_cases hr : rule < 0 ∨ 31 < rule
    · have HF : Hid (BuildPost w t rule (.returned (.tuple #[Nf.val ⟨0, none, 0, 0, none, 0, 0⟩, .int .i64 ((1 : Nat) : Nat)])) (put3 w4 R ⟨0, none, 0, 0, none, 0, 0⟩)) := build_no HB4.out HRR2.out (by unfold buildOf; rw [if_neg (by rw [HPV.out]; decide), if_neg (by rw [HPP.out]; exact hP2), if_pos hr])
      have HG : Hid (NFB (put3 w4 R ⟨0, none, 0, 0, none, 0, 0⟩) R ⟨0, none, 0, 0, none, 0, 0⟩) := HR4.out.put3 _
      unfold put3 at HF HG
      simp only at HF HG
      by_cases hr0 : rule < 0
      · go_wp2
        exact post_build (y := ⟨0, none, 0, 0, none, 0, 0⟩) rfl rfl rfl HG.out HF.out
      · have hr1 : 31 < rule := by omega
        go_wp2
        exact post_build (y := ⟨0, none, 0, 0, none, 0, 0⟩) rfl rfl rfl HG.out HF.out
    obtain ⟨r, rfl⟩ : ∃ r : Nat, rule = (r : Nat) := ⟨rule.toNat, by omega⟩
    have hr31 : r ≤ 31 := by omega
    have hr0 : ¬ ((r : Nat) : Int) < 0 := by omega
    have hr1 : ¬ (31 : Int) < ((r : Nat) : Int) := by omega
    clear hr
    have HBO : Hid (buildOf t ((r : Nat) : Int) = (mach t r, 0)) := by
      show _ = _
      unfold buildOf
      rw [if_neg (by rw [HPV.out]; decide), if_neg (by rw [HPP.out]; exact hP2), if_neg (by omega), Int.toNat_natCast]
    obtain ⟨hbS, hbE⟩ := lay_bounds HPV.out (by rw [HPP.out]; exact hP2)
    have kk : Below w4.heap.size w4 (w4.alloc (.cells #[.int .i64 1, .slice none 0 0] 79)) := (Below.refl _ _).alloc (Nat.le_refl _) _
    have HB5 : Hid (Below w.heap.size w (w4.alloc (.cells #[.int .i64 1, .slice none 0 0] 79))) := below_step HB4.out kk
    have HN5 : Hid (NB (w4.alloc (.cells #[.int .i64 1, .slice none 0 0] 79)) A x) := HN4.out.later kk
    have HR5 : Hid (NFB (w4.alloc (.cells #[.int .i64 1, .slice none 0 0] 79)) R ⟨0, none, 0, 0, none, 0, 0⟩) := HR4.out.later kk
    have HM5 : Hid (MB (w4.alloc (.cells #[.int .i64 1, .slice none 0 0] 79)) w.heap.size w4.heap.size ⟨1, []⟩) := ⟨HB4.out.size, .slice none 0 0, heap_alloc_new w4 _, rowE_nil _ _⟩
    obtain ⟨w5, hw5⟩ : ∃ w5, w4.alloc (.cells #[.int .i64 1, .slice none 0 0] 79) = w5 := ⟨_, rfl⟩
    rw [hw5] at HB5 HN5 HR5 HM5
    obtain ⟨B, hB⟩ : ∃ B, w4.heap.size = B := ⟨_, rfl⟩
    rw [hB] at HM5
    have HW5 : Hid (w4.alloc (.cells #[.int .i64 1, .slice none 0 0] 79) = w5) := hw5
    have HBB : Hid (w4.heap.size = B) := hB
    clear hw5 hB kk HB4 HN4 HR4 z0 z1 z2 q0 q1 q2
    have HCL : Hid (Calls Try.prog 39 #[.pointer (some ⟨B, 0, none⟩), x.val, .int .i64 ((0 : Nat) : Nat)] w5 _) := lay_any HIN.out HPV.out w5 w.heap.size B ⟨1, []⟩ 0 HB5.out (Nat.le_refl _) HB5.out.size HM5.out (by omega) (by omega)
    have HLT : Hid ((lay t ⟨1, []⟩ 0).2 < (lay t ⟨1, []⟩ 0).1.S) := lay_lt t ⟨1, []⟩ 0 (by decide)
    have HMA : Hid (mach t r = ⟨(lay t ⟨1, []⟩ 0).1.S, (lay t ⟨1, []⟩ 0).1.es, (List.replicate (lay t ⟨1, []⟩ 0).1.S 0).set (lay t ⟨1, []⟩ 0).2 (2 ^ r)⟩) := rfl
    obtain ⟨r1, hr1'⟩ : ∃ r1, lay t ⟨1, []⟩ 0 = r1 := ⟨_, rfl⟩
    rw [hr1'] at HCL HLT HMA hbS hbE
    obtain ⟨mk, en⟩ := r1
    obtain ⟨S, es⟩ := mk
    simp only at HCL HLT HMA hbS hbE
    clear hr1'
    obtain ⟨y0, y1, y2, y3, y4, y5, y6, y7⟩ := HN5.out.cells
    unfold Nd.val at HCL
    simp only [Int.natCast_zero] at HCL
    go_upto_region 8 with fail
    rw [HW5.out, HBB.out]
    clear HW5
    go_wp2_with fail
    refine HCL.out.mono ?_
    rintro e w6 ⟨rfl, h6, f6⟩
    have HM6 : Hid (MB w6 w.heap.size B ⟨S, es⟩) := h6
    have HR6 : Hid (NFB w6 R ⟨0, none, 0, 0, none, 0, 0⟩) := f6.keep HR5.out (HM5.out.ne HR5.out.ty (by decide)) (by decide)
    have HB6 : Hid (Below w.heap.size w w6) := below_two HB5.out (f6.below HM5.out.1 HB5.out.size)
    clear h6 f6 HCL HN5 HR5 HB5 HM5 y0 y1 y2 y3 y4 y5 y6 y7
    have hen : en < S := HLT.out
    have hen' : (en : Int) < (S : Int) := by omega
    obtain ⟨o, c, c0, c1⟩ := HM6.out.cells
    simp only at c0 c1
    go_wp2_with (first | (refine wpList_make_u32 rfl _ _ rfl w.heap.size S HB6.out.size rfl rfl (by omega) ?_; intro w7 hn7 hb7; have HU7 : Hid (RowU w7 w.heap.size _ (List.replicate S 0)) := hn7; have HK7 : Hid (Below w6.heap.size w6 w7) := hb7; obtain ⟨p0, p1⟩ := RowU.cell hn7 (i := en) (x := 0) (by rw [List.getElem?_replicate, if_pos HLT.out]); clear hn7 hb7) | fail)
    have h2r : (2 ^ r : Int) % 4294967296 = ((2 ^ r : Nat) : Int) := by
      have h1 : 2 ^ r ≤ 2 ^ 31 := Nat.pow_le_pow_right (by decide) hr31
      have h2 : ((2 ^ r : Nat) : Int) = (2 ^ r : Int) := by push_cast; rfl
      rw [← h2]
      obtain ⟨q, hq⟩ : ∃ q, 2 ^ r = q := ⟨_, rfl⟩
      rw [hq] at h1 ⊢
      simp at h1
      omega
    rw [h2r]
    obtain ⟨G, hG⟩ : ∃ G, w6.heap.size = G := ⟨_, rfl⟩
    rw [hG] at HU7 ⊢
    have hG0 : w.heap.size ≤ G := by rw [← hG]; exact HB6.out.size
    have HU8 : Hid (RowU (w7.setCell ⟨G, en, none⟩ (.int .u32 ((2 ^ r : Nat) : Nat))) w.heap.size (.slice (some ⟨G, 0, none⟩) S S) ((List.replicate S 0).set en (2 ^ r))) := HU7.out.put en (2 ^ r)
    have HTG : Hid (TyB w7 44 G) := (HU7.out.ty G rfl).2
    have HM8 : Hid (RowE (w7.setCell ⟨G, en, none⟩ (.int .u32 ((2 ^ r : Nat) : Nat))) w.heap.size (.slice o es.length c) es ∧ (w7.setCell ⟨G, en, none⟩ (.int .u32 ((2 ^ r : Nat) : Nat))).heap[B]? = some (.cells #[.int .i64 (S : Nat), .slice o es.length c] 79 (0, 0))) := by
      obtain ⟨hB6, V, h1, h2⟩ := HM6.out
      have hV : V = .slice o es.length c := by
        simp only [World.cell?, h1] at c1
        simpa using c1
      subst hV
      have h1' := (HK7.out.block B HM6.out.lt).trans h1
      refine ⟨(h2.later HK7.out).set HTG.out (by decide) _ _, (Below.heap_setCell w7 ⟨G, en, none⟩ _ B (fun e => ?_)).trans h1'⟩
      have e : B = G := e
      exact absurd (TyB.ne ⟨_, _, h1'⟩ (e ▸ HTG.out)) (by decide)
    have HR8 : Hid (NFB (w7.setCell ⟨G, en, none⟩ (.int .u32 ((2 ^ r : Nat) : Nat))) R ⟨0, none, 0, 0, none, 0, 0⟩) := (Below.heap_setCell w7 ⟨G, en, none⟩ _ R (fun e => by have e : R = G := e; exact absurd (TyB.ne (HR6.out.later HK7.out).ty (e ▸ HTG.out)) (by decide))).trans (HR6.out.later HK7.out)
    have HB8 : Hid (Below w.heap.size w (w7.setCell ⟨G, en, none⟩ (.int .u32 ((2 ^ r : Nat) : Nat)))) := (below_step HB6.out HK7.out).setCell (p := ⟨G, en, none⟩) hG0 _
    obtain ⟨w8, hw8⟩ : ∃ w8, w7.setCell ⟨G, en, none⟩ (.int .u32 ((2 ^ r : Nat) : Nat)) = w8 := ⟨_, rfl⟩
    rw [hw8] at HU8 HM8 HR8 HB8 ⊢
    clear hw8 hG HU7 HTG HM6 HR6 HB6 HK7 c0 c1 h2r hG0 p0 p1
    obtain ⟨N, hN⟩ : ∃ N, es.length = N := ⟨_, rfl⟩
    rw [hN] at HM8
    have HNN : Hid (es.length = N) := hN
    clear hN
    have c0 : w8.cell? ⟨B, 0, none⟩ = some (.int .i64 (S : Nat)) := by simp [World.cell?, HM8.out.2]
    have c1 : w8.cell? ⟨B, 1, none⟩ = some (.slice o N c) := by simp [World.cell?, HM8.out.2]
    obtain ⟨z0, z1, z2⟩ := HR8.out.cells
    simp only at z0 z1 z2
    have q0 := HR8.out.frozen 0
    have q1 := HR8.out.frozen 1
    have q2 := HR8.out.frozen 2
    have HF : Hid (BuildPost w t ((r : Nat) : Int) (.returned (.tuple #[Nf.val ⟨(S : Nat), o, N, c, some ⟨G, 0, none⟩, S, S⟩, .int .i64 ((0 : Nat) : Nat)])) (put3 w8.drew R ⟨(S : Nat), o, N, c, some ⟨G, 0, none⟩, S, S⟩)) := by
      unfold BuildPost
      rw [HBO.out]
      refine ⟨below_put3 HB8.out.drew HRR2.out _, _, rfl, ?_⟩
      rw [HMA.out]
      have hkE : ∀ k, k ≠ R → (put3 w8.drew R ⟨(S : Nat), o, N, c, some ⟨G, 0, none⟩, S, S⟩).heap[k]? = w8.heap[k]? := fun k hk => heap_put3 w8.drew R _ k hk
      have h1 := (HM8.out.1.keep (w' := put3 w8.drew R ⟨(S : Nat), o, N, c, some ⟨G, 0, none⟩, S, S⟩) (fun b _ _ hb => hkE b (fun e => absurd (TyB.ne hb (e ▸ HR8.out.ty)) (by decide))))
      have h2 := (HU8.out.keep (w' := put3 w8.drew R ⟨(S : Nat), o, N, c, some ⟨G, 0, none⟩, S, S⟩) (fun b _ _ hb => hkE b (fun e => absurd (TyB.ne hb (e ▸ HR8.out.ty)) (by decide))))
      exact ⟨rfl, h1.at.1, h2.at.1, h1.at2.keep (fun b hb _ => ⟨hb.1, fun h => absurd (TyB.ne hb.2 h) (by decide)⟩) (fun _ _ _ => rfl), h2.at2.keep (fun b hb _ => ⟨hb.1, fun h => absurd (TyB.ne hb.2 h) (by decide)⟩) (fun _ _ _ => rfl)⟩
    have HG : Hid (NFB (put3 w8.drew R ⟨(S : Nat), o, N, c, some ⟨G, 0, none⟩, S, S⟩) R ⟨(S : Nat), o, N, c, some ⟨G, 0, none⟩, S, S⟩) := NFB.put3 (w := w8.drew) (y := ⟨0, none, 0, 0, none, 0, 0⟩) HR8.out _
    unfold put3 at HF HG
    simp only at HF HG
    go_region
    all_goals
      go_wp2
      exact post_build (y := ⟨(S : Nat), o, N, c, some ⟨G, 0, none⟩, S, S⟩) rfl rfl rfl HG.out HF.out
end Go.Proofs.Ytjmbimgofceanaa
