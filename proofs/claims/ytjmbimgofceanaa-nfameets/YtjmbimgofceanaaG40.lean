/- The program's way of a repeat. -/
import Derived.Test.YtjmbimgofceanaaG39
import Derived.Test.YtjmbimgofceanaaG26
namespace Go.Proofs.Ytjmbimgofceanaa
open Go.RowKit
attribute [local go_sem ↓] Go.wp_at_zero Go.wp_at_succ

theorem rounds_one (F : Mk → Nat → Mk × Nat) (j : Nat) (x : Mk × Nat) : rounds F (j + 1) x = rounds F j (F x.1 x.2) := rfl
set_option maxRecDepth 4000 in
set_option maxHeartbeats 16000000 in
theorem way_times {w0 : World} {B : Nat} {s : Oct.S} {t : Tn} {v : Nd} {mn mx : Int} {a : Option Addr} {c : Nat} (hr : RowAt (fun b => b ≠ B) w0 a [v]) (HL : LayV w0 B t v) (hp : placesOf t ≠ 1) (hmn : 0 ≤ mn ∧ mn ≤ 255) (hmx : mx = -1 ∨ mn ≤ mx ∧ mx ≤ 255) : WayV 49 w0 B (.mk 5 s [t] mn mx) ⟨5, s, a, 1, c, mn, mx⟩ := by
  intro w b0 Y m a0 hlow h0 hb hbb hS hE
  obtain ⟨R, hR⟩ : ∃ R, lay (.mk 5 s [t] mn mx) m a0 = R := ⟨_, rfl⟩
  rw [hR] at hS hE ⊢
  obtain ⟨M, rfl⟩ : ∃ M : Nat, mn = (M : Nat) := ⟨mn.toNat, by omega⟩
  have hM : M ≤ 255 := by omega
  have HRC : Hid (R = if mx = -1 then again (lay t) (rounds (lay t) M (m, a0)) else if mx = (M : Nat) then rounds (lay t) M (m, a0) else joint (tails (lay t) (mx - (M : Nat)).toNat (rounds (lay t) M (m, a0)) [(rounds (lay t) M (m, a0)).2])) := by
    show _ = _
    rw [← hR, lay_mk]
    simp only [show ¬ ((5 : Int) = 2 ∨ (5 : Int) = 6 ∨ (5 : Int) = 7) by decide, show ¬ (5 : Int) = 3 by decide, show ¬ (5 : Int) = 4 by decide, if_false, if_true, hd]
    unfold timesOf
    rw [if_neg hp, Int.toNat_natCast]
  have HRO : Hid (RowAt (fun b => b ≠ B) w0 a [v]) := hr
  have HLL : Hid (LayV w0 B t v) := HL
  have HBS : Hid (R.1.S ≤ 1000000 ∧ R.1.es.length ≤ 1000000) := ⟨hS, hE⟩
  obtain ⟨C, hC⟩ : ∃ C, rounds (lay t) M (m, a0) = C := ⟨_, rfl⟩
  have HCC : Hid (rounds (lay t) (M - 0) (m, a0) = C) := hC
  rw [hC] at HRC
  have HCL : Hid (C.1.le R.1) := by
    show C.1.le R.1
    rw [HRC.out]
    split
    · exact again_le (lay_le t) C
    split
    · exact .refl _
    · exact (tails_le (lay_le t) _ _ _).trans (joint_le _)
  clear hr HL hS hE hR hC hp
  have HSB : Hid (Sb w0 b0 B Y w.heap.size ⟨5, s, a, 1, c, (M : Nat), mx⟩ w (w.alloc (.cells #[.int .i64 5, .int .u64 (Oct.word s 0 : Nat), .int .u64 (Oct.word s 1 : Nat), .int .u64 (Oct.word s 2 : Nat), .int .u64 (Oct.word s 3 : Nat), .slice a 1 c, .int .i64 (M : Nat), .int .i64 mx] 30)) m) := sb_start w0 ⟨5, s, a, 1, c, (M : Nat), mx⟩ hbb hlow hb h0
  obtain ⟨w1, hw1⟩ : ∃ w1, w.alloc (.cells #[.int .i64 5, .int .u64 (Oct.word s 0 : Nat), .int .u64 (Oct.word s 1 : Nat), .int .u64 (Oct.word s 2 : Nat), .int .u64 (Oct.word s 3 : Nat), .slice a 1 c, .int .i64 (M : Nat), .int .i64 mx] 30) = w1 := ⟨_, rfl⟩
  rw [hw1] at HSB
  obtain ⟨A, hA⟩ : ∃ A, w.heap.size = A := ⟨_, rfl⟩
  rw [hA] at HSB
  have HW1 : Hid (w.alloc (.cells #[.int .i64 5, .int .u64 (Oct.word s 0 : Nat), .int .u64 (Oct.word s 1 : Nat), .int .u64 (Oct.word s 2 : Nat), .int .u64 (Oct.word s 3 : Nat), .slice a 1 c, .int .i64 (M : Nat), .int .i64 mx] 30) = w1) := hw1
  have HAA : Hid (w.heap.size = A) := hA
  have HB : Hid (b0 ≤ w.heap.size) := hb
  have H0 : Hid (w0.heap.size ≤ b0) := h0
  clear hw1 hA hb h0 hlow hbb
  obtain ⟨y0, y1, y2, y3, y4, y5, y6, y7⟩ := HSB.out.nb.cells
  simp only at y0 y1 y2 y3 y4 y5 y6 y7
  unfold Nd.val
  simp only
  go_enter Try.func49, Try.ntmps49
  go_upto_region 1 with fail
  rw [HW1.out, HAA.out]
  clear HW1
  have hrow := (HRO.out.keep (w' := w1) (Y := fun _ => True) (fun _ _ _ => trivial) (fun b hb hlt => HSB.out.low.2 b hlt hb)).nth (i := 0) rfl
  obtain ⟨g, off, hgo, e0, e1, e2, e3, e4, e5, e6, e7⟩ := hrow
  cases hgo
  simp only [Nat.zero_mul, Nat.add_zero] at e0 e1 e2 e3 e4 e5 e6 e7
  have kk : Below w1.heap.size w1 (w1.alloc (.cells #[.int .i64 v.k, .int .u64 (Oct.word v.s 0 : Nat), .int .u64 (Oct.word v.s 1 : Nat), .int .u64 (Oct.word v.s 2 : Nat), .int .u64 (Oct.word v.s 3 : Nat), .slice v.a v.n v.c, .int .i64 v.mn, .int .i64 v.mx] 30)) := (Below.refl _ _).alloc (Nat.le_refl _) _
  have HS2 : Hid (Sb w0 b0 B Y A ⟨5, s, some ⟨g, off, none⟩, 1, c, (M : Nat), mx⟩ w (w1.alloc (.cells #[.int .i64 v.k, .int .u64 (Oct.word v.s 0 : Nat), .int .u64 (Oct.word v.s 1 : Nat), .int .u64 (Oct.word v.s 2 : Nat), .int .u64 (Oct.word v.s 3 : Nat), .slice v.a v.n v.c, .int .i64 v.mn, .int .i64 v.mx] 30)) m) := HSB.out.later kk
  have HV2 : Hid (NB (w1.alloc (.cells #[.int .i64 v.k, .int .u64 (Oct.word v.s 0 : Nat), .int .u64 (Oct.word v.s 1 : Nat), .int .u64 (Oct.word v.s 2 : Nat), .int .u64 (Oct.word v.s 3 : Nat), .slice v.a v.n v.c, .int .i64 v.mn, .int .i64 v.mx] 30)) w1.heap.size v) := nb_new w1 v
  go_upto_region 2 with fail
  obtain ⟨w2, hw2⟩ : ∃ w2, w1.alloc (.cells #[.int .i64 v.k, .int .u64 (Oct.word v.s 0 : Nat), .int .u64 (Oct.word v.s 1 : Nat), .int .u64 (Oct.word v.s 2 : Nat), .int .u64 (Oct.word v.s 3 : Nat), .slice v.a v.n v.c, .int .i64 v.mn, .int .i64 v.mx] 30) = w2 := ⟨_, rfl⟩
  obtain ⟨A2, hA2⟩ : ∃ A2, w1.heap.size = A2 := ⟨_, rfl⟩
  rw [hw2] at HS2 HV2 ⊢
  rw [hA2] at HV2 ⊢
  clear hw2 hA2 kk HSB e0 e1 e2 e3 e4 e5 e6 e7 y0 y1 y2 y3 y4 y5 y6 y7
  obtain ⟨y0, y1, y2, y3, y4, y5, y6, y7⟩ := HS2.out.nb.cells
  simp only at y0 y1 y2 y3 y4 y5 y6 y7
  go_wp2_with fail
  clear y0 y1 y2 y3 y4 y5 y6 y7
  go_loopw [2, 14] (fun va i u => ∃ (j : Nat) (m' : Mk) (a' : Nat), va = .int .i64 (a' : Nat) ∧ i = .int .i64 (j : Nat) ∧ j ≤ M ∧ Hid (rounds (lay t) (M - j) (m', a') = C) ∧ Hid (NB u A2 v) ∧ Hid (Sb w0 b0 B Y A ⟨5, s, some ⟨g, off, none⟩, 1, c, (M : Nat), mx⟩ w u m')) (fun _ i _ => M - (intOf i).toNat)
  case atStart => exact ⟨0, m, a0, rfl, rfl, Nat.zero_le _, HCC, HV2, HS2⟩
  case round =>
    clear HS2 HV2 HCC
    obtain ⟨j, m', a', rfl, rfl, hjn, HRj, HVj, HSj⟩ := hrel
    by_cases hlt : j < M
    · have hlt' : (j : Int) < (M : Int) := by omega
      obtain ⟨z0, z1, z2, z3, z4, z5, z6, z7⟩ := HVj.out.cells
      have HRn : Hid (rounds (lay t) (M - (j + 1)) (lay t m' a') = C) := by
        show _ = _
        rw [← HRj.out, show M - j = (M - (j + 1)) + 1 by omega, rounds_one]
      have hle := rounds_le (lay_le t) (M - (j + 1)) (lay t m' a')
      rw [HRn.out] at hle
      have HC : Hid (Calls Try.prog 29 #[.pointer (some ⟨B, 0, none⟩), v.val, .int .i64 (a' : Nat)] wr _) := HLL.out wr b0 Y m' a' HSj.out.low H0.out HSj.out.sz HSj.out.bb (Nat.le_trans hle.1 (Nat.le_trans HCL.out.1 HBS.out.1)) (Nat.le_trans hle.2 (Nat.le_trans HCL.out.2 HBS.out.2))
      obtain ⟨r, hr⟩ : ∃ r, lay t m' a' = r := ⟨_, rfl⟩
      rw [hr] at HC HRn
      clear hr hle HRj
      unfold Nd.val at HC
      go_wp2_with fail
      refine HC.out.mono ?_
      rintro e w4 ⟨rfl, h4, f4⟩
      have HS4 : Hid (Sb w0 b0 B Y A ⟨5, s, some ⟨g, off, none⟩, 1, c, (M : Nat), mx⟩ w w4 r.1) := HSj.out.call h4 f4
      have HV4 : Hid (NB w4 A2 v) := f4.keep HVj.out (HSj.out.bb.ne ⟨_, _, HVj.out⟩ (by decide)) (by decide)
      clear h4 f4 HC HSj HVj z0 z1 z2 z3 z4 z5 z6 z7
      go_wp2
      go_roundw
      case rel => exact ⟨j + 1, r.1, r.2, rfl, by go_num, by omega, HRn, HV4, HS4⟩
      case measure => simp [intOf]; omega
    · have hlt' : ¬ (j : Int) < (M : Int) := by omega
      have HCE : Hid (C = (m', a')) := by
        show _ = _
        rw [← HRj.out, show M - j = 0 by omega, rounds]
      rw [HCE.out] at HRC
      clear HRj HCL HCE
      obtain ⟨z0, z1, z2, z3, z4, z5, z6, z7⟩ := HVj.out.cells
      obtain ⟨y0, y1, y2, y3, y4, y5, y6, y7⟩ := HSj.out.nb.cells
      simp only at y0 y1 y2 y3 y4 y5 y6 y7
      by_cases hm1 : mx = -1
      · subst hm1
        have HRA : Hid (R = again (lay t) (m', a')) := by show _ = _; rw [HRC.out, if_pos rfl]
        have HC : Hid (Calls Try.prog 71 #[.pointer (some ⟨B, 0, none⟩), v.val, .int .i64 (a' : Nat)] wr _) := bloop_any HLL.out wr b0 Y m' a' HSj.out.low H0.out HSj.out.sz HSj.out.bb (by rw [← HRA.out]; exact HBS.out.1) (by rw [← HRA.out]; exact HBS.out.2)
        rw [← HRA.out] at HC
        unfold Nd.val at HC
        clear HRC HRA
        go_wp2_with fail
        refine HC.out.mono ?_
        rintro e w4 ⟨rfl, h4, f4⟩
        have HS4 : Hid (Sb w0 b0 B Y A ⟨5, s, some ⟨g, off, none⟩, 1, c, (M : Nat), -1⟩ w w4 R.1) := HSj.out.call h4 f4
        clear h4 f4 HC HSj HVj z0 z1 z2 z3 z4 z5 z6 z7 y0 y1 y2 y3 y4 y5 y6 y7
        go_wp2
        go_ret
        exact ⟨rfl, HS4.out.bb, HS4.out.fm⟩
      · obtain ⟨X, rfl⟩ : ∃ X : Nat, mx = (X : Nat) := ⟨mx.toNat, by omega⟩
        have hX1 : ¬ ((X : Nat) : Int) = -1 := by omega
        have hX3 : (((X : Nat) : Int) == -1) = false := by rw [beq_eq_false_iff_ne]; omega
        have hX2 : X ≤ 255 := by omega
        have hX4 : M ≤ X := by omega
        by_cases hXM : X = M
        · subst hXM
          have HRE : Hid (R = (m', a')) := by show _ = _; rw [HRC.out, if_neg hX1, if_pos rfl]
          go_wp2
          go_ret
          rw [HRE.out]
          exact ⟨rfl, HSj.out.bb, HSj.out.fm⟩
        have hXM' : ¬ ((X : Nat) : Int) = ((M : Nat) : Int) := by omega
        have hXM2 : ((M : Nat) : Int) < ((X : Nat) : Int) := by omega
        obtain ⟨Z, hZ⟩ : ∃ Z : Nat, ((X : Nat) : Int) - ((M : Nat) : Int) = ((Z : Nat) : Int) := ⟨X - M, by omega⟩
        have HZZ : Hid (((X : Nat) : Int) - ((M : Nat) : Int) = ((Z : Nat) : Int)) := hZ
        have hZ2 : Z ≤ 255 := by omega
        have HRE : Hid (R = joint (tails (lay t) Z (m', a') [a'])) := by
          show _ = _
          rw [HRC.out, if_neg hX1, if_neg hXM', hZ, Int.toNat_natCast]
        clear hZ HRC
        have HC : Hid (Calls Try.prog 72 #[.pointer (some ⟨B, 0, none⟩), v.val, .int .i64 (Z : Nat), .int .i64 (a' : Nat)] wr _) := bupTo_any HLL.out Z hZ2 wr b0 Y m' a' HSj.out.low H0.out HSj.out.sz HSj.out.bb (by rw [← HRE.out]; exact HBS.out.1) (by rw [← HRE.out]; exact HBS.out.2)
        rw [← HRE.out, ← HZZ.out] at HC
        unfold Nd.val at HC
        clear HRE
        go_wp2_with fail
        refine HC.out.mono ?_
        rintro e w4 ⟨rfl, h4, f4⟩
        have HS4 : Hid (Sb w0 b0 B Y A ⟨5, s, some ⟨g, off, none⟩, 1, c, (M : Nat), (X : Nat)⟩ w w4 R.1) := HSj.out.call h4 f4
        clear h4 f4 HC HSj HVj z0 z1 z2 z3 z4 z5 z6 z7 y0 y1 y2 y3 y4 y5 y6 y7
        go_wp2
        go_ret
        exact ⟨rfl, HS4.out.bb, HS4.out.fm⟩
end Go.Proofs.Ytjmbimgofceanaa

/- The program's lay of any tree without repeats of nothing. -/
namespace Go.Proofs.Ytjmbimgofceanaa
open Go.RowKit
attribute [local go_sem ↓] Go.wp_at_zero Go.wp_at_succ

theorem wb_cell {u : World} {Y k : Nat} {x : Value} (h : WB u Y) (hx : (#[Value.nilFunc, .func (.func 45) #[] #[], .func (.func 46) #[] #[], .func (.func 47) #[] #[], .func (.func 48) #[] #[], .func (.func 49) #[] #[], .func (.func 50) #[] #[], .func (.func 51) #[] #[]] : Array Value)[k]? = some x) : u.cell? ⟨Y, k, none⟩ = some x := by
  unfold WB at h
  simp only [World.cell?, h]
  simpa using hx
theorem blay_any {w0 : World} {B : Nat} {t : Tn} {x : Nd} (h : NwAt (fun b => b ≠ B) w0 t x) : (plc t).2 = true → tidy t = true → LayV w0 B t x := by
  induction h with
  | mk k s subs mn mx a n c vs hn hl hm hr hin ih =>
    intro hp hti
    obtain ⟨hsh, hsub⟩ := plc_subs hp
    rw [tidy, Bool.and_eq_true] at hti
    have hts := (tidys_iff _).1 hti.2
    have hs : ∀ (i : Nat) (t : Tn) (v : Nd), subs[i]? = some t → vs[i]? = some v → LayV w0 B t v := fun i t v ht hv => ih i t v ht hv (hsub t (List.mem_of_getElem? ht)) (hts t (List.mem_of_getElem? ht))
    rcases shp_kind hsh with rfl | rfl | rfl | rfl | rfl | rfl | rfl
    · exact disp_any (k := 1) rfl (by decide) ent45 (fun u Y h => wb_cell h rfl) (way_1 hn hl hm hr hs)
    · exact disp_any (k := 2) rfl (by decide) ent46 (fun u Y h => wb_cell h rfl) (way_2 hn hl hm hr hs)
    · exact disp_any (k := 3) rfl (by decide) ent47 (fun u Y h => wb_cell h rfl) (way_seq hn hl hm hr hs)
    · exact disp_any (k := 4) rfl (by decide) ent48 (fun u Y h => wb_cell h rfl) (way_alt hn hl hm hr hs)
    · obtain ⟨h1, hmn, hmx⟩ := shp_five hsh
      match subs, vs, hn, hl, h1 with
      | [u], [v], hn, hl, _ =>
        have hn : n = 1 := hn
        subst hn
        have hpl : placesOf u ≠ 1 := by
          have h2 := hti.1
          rw [Bool.or_eq_true] at h2
          rcases h2 with h2 | h2
          · exact absurd rfl (of_decide_eq_true h2)
          · exact of_decide_eq_true h2
        exact disp_any (k := 5) rfl (by decide) ent49 (fun u Y h => wb_cell h rfl) (way_times hr (hs 0 u v rfl rfl) hpl hmn hmx)
      | [u], [], hn, hl, _ => simp at hn hl; omega
      | [u], _ :: _ :: _, hn, hl, _ => simp at hn hl; omega
    · exact disp_any (k := 6) rfl (by decide) ent50 (fun u Y h => wb_cell h rfl) (way_6 hn hl hm hr hs (by unfold shapedT at hsh; simp at hsh; exact hsh.1.2))
    · exact disp_any (k := 7) rfl (by decide) ent51 (fun u Y h => wb_cell h rfl) (way_7 hn hl hm hr hs (by unfold shapedT at hsh; simp at hsh; exact hsh.1.2))
end Go.Proofs.Ytjmbimgofceanaa

/- The program's trimmedSeq. -/
namespace Go.Proofs.Ytjmbimgofceanaa
open Go.RowKit
attribute [local go_sem ↓] Go.wp_at_zero Go.wp_at_succ

/-- WHAT A TRIMMED TREE IS. -/
def TrimPost (w : World) (T : Tn) (e : Ending) (w' : World) : Prop := Below w.heap.size w w' ∧ ∃ y : Nd, e = .returned y.val ∧ NwAt (fun b => w.heap.size ≤ b) w' T y
def TrimV (w0 : World) (t : Tn) (v : Nd) : Prop := ∀ w : World, Below w0.heap.size w0 w → Calls Try.prog 30 #[v.val] w (TrimPost w (trim t))
theorem below_p8 {w u : World} {base : Nat} (h : Below base w u) {R : Nat} (hR : base ≤ R) (x : Nd) : Below base w (put8 u R x) := by
  unfold put8
  exact ((((((((h.setCell (p := ⟨R, 0, none⟩) hR _).setCell (p := ⟨R, 1, none⟩) hR _).setCell (p := ⟨R, 2, none⟩) hR _).setCell (p := ⟨R, 3, none⟩) hR _).setCell (p := ⟨R, 4, none⟩) hR _).setCell (p := ⟨R, 5, none⟩) hR _).setCell (p := ⟨R, 6, none⟩) hR _).setCell (p := ⟨R, 7, none⟩) hR _)
theorem trim_end {w u : World} {R : Nat} {T : Tn} {y : Nd} (hb : Below w.heap.size w u) (hR : w.heap.size ≤ R) (hy : NwAt (fun b => w.heap.size ≤ b ∧ b ≠ R) u T y) : TrimPost w T (.returned y.val) (put8 u R y) :=
  ⟨below_p8 hb hR y, y, rfl, hy.keep (fun _ hb _ => hb.1) (fun b hb _ => heap_put8 u R y b hb.2)⟩
theorem trims_next {ts : List Tn} {i : Nat} {t : Tn} (h : ts[i]? = some t) : trims (ts.drop i) = if kindT (trim t) = 1 then trims (ts.drop (i + 1)) else trim t :: trims (ts.drop (i + 1)) := by
  have hlt := (List.getElem?_eq_some_iff.1 h).1
  rw [List.drop_eq_getElem_cons hlt, (List.getElem?_eq_some_iff.1 h).2, trims]
set_option maxRecDepth 4000 in
set_option maxHeartbeats 8000000 in
theorem tseq_any {w0 : World} {subs : List Tn} {a : Option Addr} {n c : Nat} {vs : List Nd} (hn : n = subs.length) (hl : vs.length = n) (hm : n ≤ 1000000) (hr : RowAt (fun _ => True) w0 a vs) (hs : ∀ (i : Nat) (t : Tn) (v : Nd), subs[i]? = some t → vs[i]? = some v → TrimV w0 t v) (w : World) (hlow : Below w0.heap.size w0 w) : Calls Try.prog 52 #[.slice a n c] w (TrimPost w (packT (trims subs))) := by
  have kk : Below w.heap.size w (w.alloc (.cells #[.int .i64 0, .int .u64 0, .int .u64 0, .int .u64 0, .int .u64 0, .slice none 0 0, .int .i64 0, .int .i64 0] 30)) := (Below.refl _ _).alloc (Nat.le_refl _) _
  have HNR : Hid (NB (w.alloc (.cells #[.int .i64 0, .int .u64 0, .int .u64 0, .int .u64 0, .int .u64 0, .slice none 0 0, .int .i64 0, .int .i64 0] 30)) w.heap.size zeroNd) := nb_zero w
  have HB : Hid (Below w.heap.size w (w.alloc (.cells #[.int .i64 0, .int .u64 0, .int .u64 0, .int .u64 0, .int .u64 0, .slice none 0 0, .int .i64 0, .int .i64 0] 30))) := kk
  have HSZ : Hid (w.heap.size + 1 ≤ (w.alloc (.cells #[.int .i64 0, .int .u64 0, .int .u64 0, .int .u64 0, .int .u64 0, .slice none 0 0, .int .i64 0, .int .i64 0] 30)).heap.size) := by show _ ≤ _; simp
  obtain ⟨w1, hw1⟩ : ∃ w1, w.alloc (.cells #[.int .i64 0, .int .u64 0, .int .u64 0, .int .u64 0, .int .u64 0, .slice none 0 0, .int .i64 0, .int .i64 0] 30) = w1 := ⟨_, rfl⟩
  rw [hw1] at HNR HB HSZ
  obtain ⟨R, hR⟩ : ∃ R, w.heap.size = R := ⟨_, rfl⟩
  rw [hR] at HNR
  have HW1 : Hid (w.alloc (.cells #[.int .i64 0, .int .u64 0, .int .u64 0, .int .u64 0, .int .u64 0, .slice none 0 0, .int .i64 0, .int .i64 0] 30) = w1) := hw1
  have HRR : Hid (w.heap.size = R) := hR
  have HRW : Hid (w.heap.size ≤ R) := Nat.le_of_eq hR
  have HLW : Hid (Below w0.heap.size w0 w) := hlow
  have HIH : Hid (∀ (i : Nat) (t : Tn) (v : Nd), subs[i]? = some t → vs[i]? = some v → TrimV w0 t v) := hs
  have HRO : Hid (RowAt (fun _ => True) w0 a vs) := hr
  have HN : Hid (n = subs.length) := hn
  have HL : Hid (vs.length = n) := hl
  have HM0 : Hid (n ≤ 1000000) := hm
  have HTL : Hid ((trims subs).length ≤ n) := by rw [hn]; exact trims_le subs
  clear hw1 hR hlow hs hr hn hl kk
  go_enter Try.func52, Try.ntmps52
  go_upto_region 1 with fail
  rw [HW1.out, HRR.out]
  clear HW1
  go_wp2_with fail
  go_loopw [3, 9] (fun ve i u => ∃ (j : Nat) (ts : List Tn), i = .int .i64 (j : Nat) ∧ j ≤ n ∧ Hid (ts ++ trims (subs.drop j) = trims subs) ∧ Hid (RowN u (w.heap.size + 1) ve ts) ∧ Hid (NB u R zeroNd) ∧ Hid (Below w.heap.size w u) ∧ Hid (w.heap.size + 1 ≤ u.heap.size)) (fun _ i _ => n - (intOf i).toNat)
  case atStart => exact ⟨0, [], rfl, Nat.zero_le _, rfl, rowN_nil _ _, HNR, HB, HSZ⟩
  case round =>
    clear HNR HB HSZ
    obtain ⟨j, ts, rfl, hjn, HTS, HRN, HNR, HB, HSZ⟩ := hrel
    by_cases hlt : j < n
    · have hlt' : (j : Int) < (n : Int) := by omega
      obtain ⟨t, ht⟩ : ∃ t, subs[j]? = some t := ⟨_, List.getElem?_eq_getElem (by rw [← HN.out]; exact hlt)⟩
      obtain ⟨v, hv⟩ : ∃ v, vs[j]? = some v := ⟨_, List.getElem?_eq_getElem (by rw [HL.out]; exact hlt)⟩
      have HLr : Hid (Below w0.heap.size w0 wr) := below_two HLW.out (below_low HB.out HLW.out.size)
      have hrow := (HRO.out.keep (w' := wr) (Y := fun _ => True) (fun _ _ _ => trivial) (fun b hb hlt => HLr.out.block b hlt)).nth hv
      obtain ⟨g, off, rfl, e0, e1, e2, e3, e4, e5, e6, e7⟩ := hrow
      have kk : Below wr.heap.size wr (wr.alloc (.cells #[.int .i64 v.k, .int .u64 (Oct.word v.s 0 : Nat), .int .u64 (Oct.word v.s 1 : Nat), .int .u64 (Oct.word v.s 2 : Nat), .int .u64 (Oct.word v.s 3 : Nat), .slice v.a v.n v.c, .int .i64 v.mn, .int .i64 v.mx] 30)) := (Below.refl _ _).alloc (Nat.le_refl _) _
      have HRN2 : Hid (RowN (wr.alloc (.cells #[.int .i64 v.k, .int .u64 (Oct.word v.s 0 : Nat), .int .u64 (Oct.word v.s 1 : Nat), .int .u64 (Oct.word v.s 2 : Nat), .int .u64 (Oct.word v.s 3 : Nat), .slice v.a v.n v.c, .int .i64 v.mn, .int .i64 v.mx] 30)) (w.heap.size + 1) u3 ts) := HRN.out.keep (fun b _ hlt => kk.block b hlt)
      have HNR2 : Hid (NB (wr.alloc (.cells #[.int .i64 v.k, .int .u64 (Oct.word v.s 0 : Nat), .int .u64 (Oct.word v.s 1 : Nat), .int .u64 (Oct.word v.s 2 : Nat), .int .u64 (Oct.word v.s 3 : Nat), .slice v.a v.n v.c, .int .i64 v.mn, .int .i64 v.mx] 30)) R zeroNd) := HNR.out.later kk
      have HB2 : Hid (Below w.heap.size w (wr.alloc (.cells #[.int .i64 v.k, .int .u64 (Oct.word v.s 0 : Nat), .int .u64 (Oct.word v.s 1 : Nat), .int .u64 (Oct.word v.s 2 : Nat), .int .u64 (Oct.word v.s 3 : Nat), .slice v.a v.n v.c, .int .i64 v.mn, .int .i64 v.mx] 30))) := below_step HB.out kk
      have HSZ2 : Hid (w.heap.size + 1 ≤ (wr.alloc (.cells #[.int .i64 v.k, .int .u64 (Oct.word v.s 0 : Nat), .int .u64 (Oct.word v.s 1 : Nat), .int .u64 (Oct.word v.s 2 : Nat), .int .u64 (Oct.word v.s 3 : Nat), .slice v.a v.n v.c, .int .i64 v.mn, .int .i64 v.mx] 30)).heap.size) := Nat.le_trans HSZ.out kk.size
      have HNV : Hid (NB (wr.alloc (.cells #[.int .i64 v.k, .int .u64 (Oct.word v.s 0 : Nat), .int .u64 (Oct.word v.s 1 : Nat), .int .u64 (Oct.word v.s 2 : Nat), .int .u64 (Oct.word v.s 3 : Nat), .slice v.a v.n v.c, .int .i64 v.mn, .int .i64 v.mx] 30)) wr.heap.size v) := nb_new wr v
      have HLr2 : Hid (Below w0.heap.size w0 (wr.alloc (.cells #[.int .i64 v.k, .int .u64 (Oct.word v.s 0 : Nat), .int .u64 (Oct.word v.s 1 : Nat), .int .u64 (Oct.word v.s 2 : Nat), .int .u64 (Oct.word v.s 3 : Nat), .slice v.a v.n v.c, .int .i64 v.mn, .int .i64 v.mx] 30))) := below_step HLr.out kk
      go_upto_region 5 with fail
      obtain ⟨w2, hw2⟩ : ∃ w2, wr.alloc (.cells #[.int .i64 v.k, .int .u64 (Oct.word v.s 0 : Nat), .int .u64 (Oct.word v.s 1 : Nat), .int .u64 (Oct.word v.s 2 : Nat), .int .u64 (Oct.word v.s 3 : Nat), .slice v.a v.n v.c, .int .i64 v.mn, .int .i64 v.mx] 30) = w2 := ⟨_, rfl⟩
      obtain ⟨A2, hA2⟩ : ∃ A2, wr.heap.size = A2 := ⟨_, rfl⟩
      rw [hw2] at HRN2 HNR2 HB2 HSZ2 HNV HLr2 ⊢
      rw [hA2] at HNV ⊢
      clear hw2 hA2 kk HRN HNR HB HSZ HLr e0 e1 e2 e3 e4 e5 e6 e7
      obtain ⟨y0, y1, y2, y3, y4, y5, y6, y7⟩ := HNV.out.cells
      have HC : Hid (Calls Try.prog 30 #[v.val] w2 (TrimPost w2 (trim t))) := HIH.out j t v ht hv w2 HLr2.out
      have HTN := trims_next ht
      obtain ⟨T1, hT1⟩ : ∃ T1, trim t = T1 := ⟨_, rfl⟩
      rw [hT1] at HC HTN
      have HTX : Hid (trims (subs.drop j) = if kindT T1 = 1 then trims (subs.drop (j + 1)) else T1 :: trims (subs.drop (j + 1))) := HTN
      clear HTN hT1 ht hv
      unfold Nd.val at HC
      go_wp2_with fail
      refine HC.out.mono ?_
      rintro e w3 ⟨k3, y, rfl, hy3⟩
      clear HC y0 y1 y2 y3 y4 y5 y6 y7 HNV
      have k4 : Below w3.heap.size w3 (w3.alloc (.cells #[.int .i64 y.k, .int .u64 (Oct.word y.s 0 : Nat), .int .u64 (Oct.word y.s 1 : Nat), .int .u64 (Oct.word y.s 2 : Nat), .int .u64 (Oct.word y.s 3 : Nat), .slice y.a y.n y.c, .int .i64 y.mn, .int .i64 y.mx] 30)) := (Below.refl _ _).alloc (Nat.le_refl _) _
      have k24 := below_step k3 k4
      have HRN4 : Hid (RowN (w3.alloc (.cells #[.int .i64 y.k, .int .u64 (Oct.word y.s 0 : Nat), .int .u64 (Oct.word y.s 1 : Nat), .int .u64 (Oct.word y.s 2 : Nat), .int .u64 (Oct.word y.s 3 : Nat), .slice y.a y.n y.c, .int .i64 y.mn, .int .i64 y.mx] 30)) (w.heap.size + 1) u3 ts) := HRN2.out.keep (fun b _ hlt => k24.block b hlt)
      have HNR4 : Hid (NB (w3.alloc (.cells #[.int .i64 y.k, .int .u64 (Oct.word y.s 0 : Nat), .int .u64 (Oct.word y.s 1 : Nat), .int .u64 (Oct.word y.s 2 : Nat), .int .u64 (Oct.word y.s 3 : Nat), .slice y.a y.n y.c, .int .i64 y.mn, .int .i64 y.mx] 30)) R zeroNd) := HNR2.out.later k24
      have HB4 : Hid (Below w.heap.size w (w3.alloc (.cells #[.int .i64 y.k, .int .u64 (Oct.word y.s 0 : Nat), .int .u64 (Oct.word y.s 1 : Nat), .int .u64 (Oct.word y.s 2 : Nat), .int .u64 (Oct.word y.s 3 : Nat), .slice y.a y.n y.c, .int .i64 y.mn, .int .i64 y.mx] 30))) := below_step HB2.out k24
      have HSZ4 : Hid (w.heap.size + 1 ≤ (w3.alloc (.cells #[.int .i64 y.k, .int .u64 (Oct.word y.s 0 : Nat), .int .u64 (Oct.word y.s 1 : Nat), .int .u64 (Oct.word y.s 2 : Nat), .int .u64 (Oct.word y.s 3 : Nat), .slice y.a y.n y.c, .int .i64 y.mn, .int .i64 y.mx] 30)).heap.size) := Nat.le_trans HSZ2.out k24.size
      have HNY : Hid (NB (w3.alloc (.cells #[.int .i64 y.k, .int .u64 (Oct.word y.s 0 : Nat), .int .u64 (Oct.word y.s 1 : Nat), .int .u64 (Oct.word y.s 2 : Nat), .int .u64 (Oct.word y.s 3 : Nat), .slice y.a y.n y.c, .int .i64 y.mn, .int .i64 y.mx] 30)) w3.heap.size y) := nb_new w3 y
      have HKY : Hid (y.k = kindT T1) := hy3.kind
      have HY4 : Hid (NwAt (fun b => w.heap.size + 1 ≤ b ∧ u3.ownBlock ≠ some b) (w3.alloc (.cells #[.int .i64 y.k, .int .u64 (Oct.word y.s 0 : Nat), .int .u64 (Oct.word y.s 1 : Nat), .int .u64 (Oct.word y.s 2 : Nat), .int .u64 (Oct.word y.s 3 : Nat), .slice y.a y.n y.c, .int .i64 y.mn, .int .i64 y.mx] 30)) T1 y) := (hy3.later k4).keep (fun b hb _ => ⟨Nat.le_trans HSZ2.out hb, fun e => by have := (HRN2.out.own b e).2; omega⟩) (fun _ _ _ => rfl)
      clear hy3 k3 k24 HRN2 HNR2 HB2 HSZ2 HLr2
      unfold Nd.val
      go_upto_region 6 with fail
      obtain ⟨w4, hw4⟩ : ∃ w4, w3.alloc (.cells #[.int .i64 y.k, .int .u64 (Oct.word y.s 0 : Nat), .int .u64 (Oct.word y.s 1 : Nat), .int .u64 (Oct.word y.s 2 : Nat), .int .u64 (Oct.word y.s 3 : Nat), .slice y.a y.n y.c, .int .i64 y.mn, .int .i64 y.mx] 30) = w4 := ⟨_, rfl⟩
      obtain ⟨A4, hA4⟩ : ∃ A4, w3.heap.size = A4 := ⟨_, rfl⟩
      rw [hw4] at HRN4 HNR4 HB4 HSZ4 HNY HY4 ⊢
      rw [hA4] at HNY ⊢
      clear hw4 hA4 k4
      obtain ⟨y0, y1, y2, y3, y4, y5, y6, y7⟩ := HNY.out.cells
      by_cases hk1 : y.k = 1
      · have hk2 : (y.k != 1) = false := by simp [hk1]
        have hk3 : (y.k == 1) = true := by simp [hk1]
        have HTn : Hid (ts ++ trims (subs.drop (j + 1)) = trims subs) := by
          show _ = _
          rw [← HTS.out, HTX.out, if_pos (by rw [← HKY.out]; exact hk1)]
        go_wp2
        go_roundw
        case rel => exact ⟨j + 1, ts, by go_num, by omega, HTn, HRN4, HNR4, HB4, HSZ4⟩
        case measure => simp [intOf]; omega
      · have hk2 : (y.k != 1) = true := by simp [hk1]
        have hk3 : (y.k == 1) = false := by simp [hk1]
        have HTn : Hid ((ts ++ [T1]) ++ trims (subs.drop (j + 1)) = trims subs) := by
          show _ = _
          rw [← HTS.out, HTX.out, if_neg (by rw [← HKY.out]; exact hk1)]
          simp
        have HLT : Hid (ts.length ≤ 1000000) := by
          have h1 := HTL.out
          rw [← HTS.out, List.length_append] at h1
          have h2 := HM0.out
          show _ ≤ _
          omega
        have kk : Below w4.heap.size w4 (w4.alloc (.cells #[.int .i64 y.k, .int .u64 (Oct.word y.s 0 : Nat), .int .u64 (Oct.word y.s 1 : Nat), .int .u64 (Oct.word y.s 2 : Nat), .int .u64 (Oct.word y.s 3 : Nat), .slice y.a y.n y.c, .int .i64 y.mn, .int .i64 y.mx] 30)) := (Below.refl _ _).alloc (Nat.le_refl _) _
        have HRN5 : Hid (RowN (w4.alloc (.cells #[.int .i64 y.k, .int .u64 (Oct.word y.s 0 : Nat), .int .u64 (Oct.word y.s 1 : Nat), .int .u64 (Oct.word y.s 2 : Nat), .int .u64 (Oct.word y.s 3 : Nat), .slice y.a y.n y.c, .int .i64 y.mn, .int .i64 y.mx] 30)) (w.heap.size + 1) u3 ts) := HRN4.out.keep (fun b _ hlt => kk.block b hlt)
        have HNR5 : Hid (NB (w4.alloc (.cells #[.int .i64 y.k, .int .u64 (Oct.word y.s 0 : Nat), .int .u64 (Oct.word y.s 1 : Nat), .int .u64 (Oct.word y.s 2 : Nat), .int .u64 (Oct.word y.s 3 : Nat), .slice y.a y.n y.c, .int .i64 y.mn, .int .i64 y.mx] 30)) R zeroNd) := HNR4.out.later kk
        have HB5 : Hid (Below w.heap.size w (w4.alloc (.cells #[.int .i64 y.k, .int .u64 (Oct.word y.s 0 : Nat), .int .u64 (Oct.word y.s 1 : Nat), .int .u64 (Oct.word y.s 2 : Nat), .int .u64 (Oct.word y.s 3 : Nat), .slice y.a y.n y.c, .int .i64 y.mn, .int .i64 y.mx] 30))) := below_step HB4.out kk
        have HSZ5 : Hid (w.heap.size + 1 ≤ (w4.alloc (.cells #[.int .i64 y.k, .int .u64 (Oct.word y.s 0 : Nat), .int .u64 (Oct.word y.s 1 : Nat), .int .u64 (Oct.word y.s 2 : Nat), .int .u64 (Oct.word y.s 3 : Nat), .slice y.a y.n y.c, .int .i64 y.mn, .int .i64 y.mx] 30)).heap.size) := Nat.le_trans HSZ4.out kk.size
        have HY5 : Hid (NwAt (fun b => w.heap.size + 1 ≤ b ∧ u3.ownBlock ≠ some b) (w4.alloc (.cells #[.int .i64 y.k, .int .u64 (Oct.word y.s 0 : Nat), .int .u64 (Oct.word y.s 1 : Nat), .int .u64 (Oct.word y.s 2 : Nat), .int .u64 (Oct.word y.s 3 : Nat), .slice y.a y.n y.c, .int .i64 y.mn, .int .i64 y.mx] 30)) T1 y) := HY4.out.later kk
        have HCY : Hid (∀ j v, y.cells[j]? = some v → (w4.alloc (.cells #[.int .i64 y.k, .int .u64 (Oct.word y.s 0 : Nat), .int .u64 (Oct.word y.s 1 : Nat), .int .u64 (Oct.word y.s 2 : Nat), .int .u64 (Oct.word y.s 3 : Nat), .slice y.a y.n y.c, .int .i64 y.mn, .int .i64 y.mx] 30)).cell? ((⟨w4.heap.size, 0, none⟩ : Addr).add j) = some v) := cells_newN w4 y
        clear kk
        go_wp2_with (at_builtin; go_must (refine wpList_append_nodeN rfl _ _ rfl (w.heap.size + 1) _ ts rfl HRN5.out ⟨w4.heap.size, 0, none⟩ 1 y T1 rfl HY5.out HCY.out HLT.out HSZ5.out ?_; intro g' cap' w6 hn6 hg6; have HRN6 : Hid (RowN w6 (w.heap.size + 1) _ (ts ++ [T1])) := hn6; have HG6 : Hid ((w4.alloc (.cells #[.int .i64 y.k, .int .u64 (Oct.word y.s 0 : Nat), .int .u64 (Oct.word y.s 1 : Nat), .int .u64 (Oct.word y.s 2 : Nat), .int .u64 (Oct.word y.s 3 : Nat), .slice y.a y.n y.c, .int .i64 y.mn, .int .i64 y.mx] 30)).grownBy w6 u3.ownBlock) := hg6; clear hn6 hg6))
        have HNR6 : Hid (NB w6 R zeroNd) := HNR5.out.grown HG6.out (fun e => by have h1 := (HRN5.out.own R e.symm).1; have h2 := HRR.out; omega)
        have HB6 : Hid (Below w.heap.size w w6) := HB5.out.grown HG6.out HB5.out.size (fun k hk => by have := (HRN5.out.own k hk).1; omega)
        have HSZ6 : Hid (w.heap.size + 1 ≤ w6.heap.size) := Nat.le_trans HSZ5.out HG6.out.size
        go_roundw
        case rel => exact ⟨j + 1, ts ++ [T1], by go_num, by omega, HTn, HRN6, HNR6, HB6, HSZ6⟩
        case measure => simp [intOf]; omega
    · have hlt' : ¬ (j : Int) < (n : Int) := by omega
      have HEQ : Hid (trims subs = ts) := by
        show _ = _
        rw [← HTS.out, List.drop_of_length_le (by rw [← HN.out]; omega), trims, List.append_nil]
      rw [HEQ.out] at HTL
      have h6 : ts.length ≤ 1000000 := Nat.le_trans HTL.out HM0.out
      clear HIH HRO HTS HTL
      obtain ⟨q0, q1, q2, q3, q4, q5, q6, q7⟩ := HNR.out.cells
      have f0 := HNR.out.frozen 0
      have f1 := HNR.out.frozen 1
      have f2 := HNR.out.frozen 2
      have f3 := HNR.out.frozen 3
      have f4 := HNR.out.frozen 4
      have f5 := HNR.out.frozen 5
      have f6 := HNR.out.frozen 6
      have f7 := HNR.out.frozen 7
      obtain ⟨oa, oc, hV, hlc, hcm⟩ := HRN.out.form
      subst hV
      match ts, HRN, h6, hlc, HEQ with
      | [], HRN, _, _, HEQ =>
        have HG : Hid (NB (put8 wr R ⟨1, Oct.none, none, 0, 0, 0, 0⟩) R ⟨1, Oct.none, none, 0, 0, 0, 0⟩) := HNR.out.put8 _
        have HP : Hid (TrimPost w (packT (trims subs)) (.returned (Nd.val ⟨1, Oct.none, none, 0, 0, 0, 0⟩)) (put8 wr R ⟨1, Oct.none, none, 0, 0, 0, 0⟩)) := by rw [HEQ.out]; exact trim_end HB.out HRW.out (NwAt.leaf _ _ 1 Oct.none 0 0 none 0)
        unfold put8 at HG HP
        simp only [word0] at HG HP
        clear HRN
        simp only [List.length_nil]
        go_wp2
        exact post_node Try.f52 2 rfl rfl rfl HG.out HP.out
      | [t], HRN, _, _, HEQ =>
        obtain ⟨g, x, rfl, hx, hc⟩ := RowN.first (t := t) HRN.out
        have HG : Hid (NB (put8 wr R x) R x) := HNR.out.put8 _
        have HP : Hid (TrimPost w (packT (trims subs)) (.returned (Nd.val x)) (put8 wr R x)) := by rw [HEQ.out]; exact trim_end HB.out HRW.out (hx.keep (fun b hb _ => ⟨by omega, by have := HRR.out; omega⟩) (fun _ _ _ => rfl))
        have e0 := hc 0 _ rfl
        have e1 := hc 1 _ rfl
        have e2 := hc 2 _ rfl
        have e3 := hc 3 _ rfl
        have e4 := hc 4 _ rfl
        have e5 := hc 5 _ rfl
        have e6 := hc 6 _ rfl
        have e7 := hc 7 _ rfl
        unfold put8 at HG HP
        clear HRN hc hx
        simp only [List.length_cons, List.length_nil]
        go_wp2
        exact post_node Try.f52 2 rfl rfl rfl HG.out HP.out
      | t :: u :: l, HRN, h6, hlc, HEQ =>
        obtain ⟨N, hN⟩ : ∃ N, (t :: u :: l).length = N := ⟨_, rfl⟩
        rw [hN] at HRN h6 hlc ⊢
        have hN2 : 2 ≤ N := by rw [← hN]; simp
        have g0 : ((N : Int) == 0) = false := by simp; omega
        have g1 : ((N : Int) == 1) = false := by simp; omega
        have HX := RowN.node HRN.out hN.symm h6 3 0 0
        have HG : Hid (NB (put8 wr R ⟨3, Oct.none, oa, N, oc, 0, 0⟩) R ⟨3, Oct.none, oa, N, oc, 0, 0⟩) := HNR.out.put8 _
        have HP : Hid (TrimPost w (packT (trims subs)) (.returned (Nd.val ⟨3, Oct.none, oa, N, oc, 0, 0⟩)) (put8 wr R ⟨3, Oct.none, oa, N, oc, 0, 0⟩)) := by rw [HEQ.out]; exact trim_end HB.out HRW.out (HX.keep (fun b hb _ => ⟨by omega, by have := HRR.out; omega⟩) (fun _ _ _ => rfl))
        unfold put8 at HG HP
        simp only [word0] at HG HP
        clear HX HRN hN
        unfold maxLen at hcm
        go_wp2
        exact post_node Try.f52 2 rfl rfl rfl HG.out HP.out
end Go.Proofs.Ytjmbimgofceanaa
